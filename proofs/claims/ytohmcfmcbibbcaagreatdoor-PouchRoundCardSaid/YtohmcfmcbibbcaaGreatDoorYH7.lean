import Derived.Test.YtohmcfmcbibbcaaGreatDoorYH6
import Derived.Test.YtohmcfmcbibbcaaGreatDoorYH4
import Derived.Test.YtohmcfmcbibbcaaGreatDoorYF1
import Derived.Test.YtohmcfmcbibbcaaGreatDoorYF3
namespace Go.Proofs.YtohmcfmcbibbcaaGreatDoor
open Go.RowKit
set_option linter.unusedVariables false
set_option linter.unusedSimpArgs false
set_option maxRecDepth 100000
set_option maxHeartbeats 8000000
section
variable {c:World}
theorem ck_when (b:Bool) (n:Nat):Ck Tryz.prog 68 [.bool b,.int .u8 n] c (.int .u8 (bitN b n)):=by
 refine Ck.in Tryz.func68 ?_
 repeat' first|refine go ?_|refine vc (fun _=>?_) fun _=>?_|refine vri ?_
 all_goals grind [bitN]
theorem ck_bit8 (b:Bool) (n:Nat):Ck Tryz.prog 95 [.bool b,.int .i64 n] c (.int .i64 (bitN b n)):=by
 refine Ck.in Tryz.func95 ?_
 repeat' first|refine go ?_|refine vc (fun _=>?_) fun _=>?_|refine vri ?_
 all_goals grind [bitN]
theorem ck_Flags (v:Int) (p:Pk) (s:Sl) (hR:Ri v p):Ck Tryz.prog 28 [p.val s] c (.int .u8 (flagsN p)):=by
 have h1:=hR.qos;have c1:=ck_when (c:=c) p.retain 1;have c2:=ck_when (c:=c) p.dup 8;have h2:bitN p.retain 1≤1:=by grind [bitN]
 have h3:bitN p.dup 8≤8:=by grind [bitN]
 refine Ck.in Tryz.func28 ?_
 repeat' first|refine go ?_|refine vA fun b=>?_|refine vc (fun _=>?_) fun _=>?_|refine vh [0] ?_|refine vg (fun _=>?_) fun _=>?_|refine vri ?_
 all_goals trace_state
 all_goals grind [flagsN]
theorem ck_connectFlags (v:Int) (p:Pk) (s:Sl) (hR:Ri v p):Ck Tryz.prog 130 [p.val s] c (.int .u8 (conFlN p)):=by
 have h1:=hR.wq;have c1:=ck_when (c:=c) p.clean 2;have c2:=ck_when (c:=c) p.hasWill 4;have c3:=ck_when (c:=c) p.willRetain 32;have c4:=ck_when (c:=c) p.hasPass 64;have c5:=ck_when (c:=c) p.hasUser 128;have h2:bitN p.clean 2≤2∧bitN p.hasWill 4≤4∧bitN p.willRetain 32≤32∧bitN p.hasPass 64≤64∧bitN p.hasUser 128≤128:=by grind [bitN]
 refine Ck.in Tryz.func130 ?_
 repeat' first|refine go ?_|refine vA fun b=>?_|refine vh [0] ?_|refine vri ?_
 all_goals trace_state
 all_goals grind [conFlN]
theorem ck_dexists (v:Int):Ck Tryz.prog 44 [.int .i64 v] c (.bool (decide (v=4)||decide (v=5))):=by
 refine Ck.in Tryz.func44 ?_
 repeat' first|refine go ?_|refine vc (fun _=>?_) fun _=>?_|refine vg (fun _=>?_) fun _=>?_|refine vrb ?_
 all_goals grind
theorem ck_headRight (v:Int) (h:Hd):Ck Tryz.prog 99 [.int .i64 v,.agg #[.int .i64 h.kind,.int .u8 h.flags,.int .i64 h.head,.int .i64 h.rest]] c (.bool (headOk v h)):=by
 have c1:=ck_dexists (c:=c) v;refine Ck.in Tryz.func99 ?_
 repeat' first|refine go ?_|refine vA fun b=>?_|refine vc (fun _=>?_) fun _=>?_|refine vg (fun _=>?_) fun _=>?_|refine vrb ?_
 all_goals grind [headOk]
theorem ck_Flags8 (v:Int) (p:Pk) (s:Sl) (hR:Ri v p):Ck Tryz.prog 42 [p.val s] c (.int .i64 (flagsN p)):=by
 have h1:=hR.qos;have c1:=ck_bit8 (c:=c) p.retain 1;have c2:=ck_bit8 (c:=c) p.dup 8;have h2:bitN p.retain 1≤1:=by grind [bitN]
 have h3:bitN p.dup 8≤8:=by grind [bitN]
 refine Ck.in Tryz.func42 ?_
 repeat' first|refine go ?_|refine vA fun b=>?_|refine vc (fun _=>?_) fun _=>?_|refine vh [0] ?_|refine vg (fun _=>?_) fun _=>?_|refine vri ?_
 all_goals trace_state
 all_goals grind [flagsN]
theorem ck_varSize (n:Nat) (h:n < 4294967296):Ck Tryz.prog 33 [.int .u32 n] c (.int .i64 (varL n).length):=ckOf Tryz.func33 fun w k=>(varL_size n h w).mono fun e w' h=>⟨h.1,h.2▸Kept.refl No w⟩
def sizeN (v:Int) (p:Pk):Nat:=if rightP v p=true then 1+(varL (restN v p)).length+restN v p else 0
theorem ck_Size (hT:Tabs c) (v:Int) (p:Pk) (s:Sl) (hp:p.At s c) (hF:Fit p):Ck Tryz.prog 11 [.int .i64 v,p.val s] c (.int .i64 (sizeN v p)):=by
 have c1:=ck_Right hT v p s hp hF;cases hR:rightP v p with
 | false =>
  rw[hR]at c1;refine Ck.in Tryz.func11 ?_
  repeat' first|refine go ?_|refine vA fun b=>?_|refine vri ?_
  all_goals grind [sizeN]
 | true =>
  have hRi:=right_ri hR;have h1:=hRi.rest;have h2:=varL_le (restN v p);have h3:=filtersN_le p.kind p.filters hRi.filt;have h4:=hRi.nf;have c2:=ck_Rest hT v p s hp hF (by omega);have c3:=ck_varSize (c:=c) (restN v p) (by omega);rw[hR]at c1;refine Ck.in Tryz.func11 ?_
  repeat' first|refine go ?_|refine vA fun b=>?_|refine vri ?_
  all_goals grind [sizeN]
end
abbrev pt (b:Nat):Value:=.pointer (some ⟨b,0,none⟩)
abbrev fmB (b:Nat) (v:Int) (sl:Value):Bl:=⟨b,72,[.int .i64 v,sl]⟩
abbrev byR (a:Option Addr) (cp:Nat) (l:List UInt8):Rwv:=⟨5,1,.slice a l.length cp,l.length,B8 l⟩
structure FoX where
 a:Option Addr
 cp:Nat
 l:List UInt8
abbrev Fo (f:Nat) (args:List Value) (c:World) (v:Int) (x:List UInt8):Prop:=∀ (b:Nat) (a:Option Addr) (cp:Nat) (l:List UInt8),l.length+x.length≤1000000000 →
 Tr Tryz.prog f (pt b :: args) c [fmB b v (.slice a l.length cp)] [byR a cp l] (fun _:FoX=>.tuple #[]) (fun _=>c) (fun y=>[fmB b v (.slice y.a y.l.length y.cp)]) (fun y=>[byR y.a y.cp y.l]) (fun y=>y.l=l++x)
abbrev By (f:Nat) (args:List Value) (c:World) (x:List UInt8):Prop:=Tn Tryz.prog f args c (fun y:Option Addr × Nat=>.slice y.1 x.length y.2) (fun y c'=>Own9 c' 5 y.1 x.length y.2 (B8 x))
theorem OwnB.tn {f : Nat} {fn : Func} {args : List Value} {c : World} {x : List UInt8} (hf : Tryz.prog.funcs[f]? = some fn) (h : ∀ w, Le c w → Calls Tryz.prog f args.toArray w (OwnB w x)) (hb : fn.body.isNone = false := by rfl) (hg : (fn.name == "runtime.NumGoroutine") = false := by kernel_rfl) : By f args c x := Tn.own hf h hb hg
section
variable {c:World} {v:Int}
theorem by_byte (n:Nat) (h:n≤255):By 67 [.slice none 0 0,.int .u8 n] c (by1 n):=OwnB.tn Tryz.func67 fun w _=>(byte_any none 0 [] n w (by omega) (by omega) (.nil _ _) (fun _=>⟨rfl,rfl⟩) (by simp)).mono fun e w' h=>h.own
theorem by_two (n:Nat) (h:n≤65535):By 132 [.slice none 0 0,.int .u16 n] c (by2 n):=OwnB.tn Tryz.func132 fun w _=>(two_any none 0 [] n w (by omega) (by omega) (.nil _ _) (fun _=>⟨rfl,rfl⟩) (by simp)).mono fun e w' h=>h.own
theorem by_var (n:Nat) (h:n≤268435455):By 69 [.slice none 0 0,.int .u32 n] c (varL n):=OwnB.tn Tryz.func69 fun w _=>(var_any none 0 [] n w h (.nil _ _) (fun _=>⟨rfl,rfl⟩) (by simp)).mono fun e w' h9=>by
 have h8:=h9.own;unfold varL;rw[if_pos h];exact h8
theorem by_bin (s:ByteArray) (h:s.size≤65535):By 174 [.slice none 0 0,.string s] c (binBy s):=OwnB.tn Tryz.func174 fun w _=>(bin_any none 0 [] s w h (.nil _ _) (fun _=>⟨rfl,rfl⟩) (by simp)).mono fun e w' h=>h.own
theorem by_put (hT:Tabs c) {a:Option Addr} {n:Nat} {L:List Pr} (hr:Row c a (PC L)) (hl:L.length≤100000) (hw:∀ p∈L,p.wf'):By 131 [.slice none 0 0,.slice a L.length n] c (putL [] L):=OwnB.tn Tryz.func131 fun w k=>put_any none 0 [] a n L w (.nil _ _) (fun _=>⟨rfl,rfl⟩) (by simp) (hr.le k) hl hw (hT.le k)
theorem fo_lay {ax:Option Addr} {cx:Nat} (x:List UInt8) (hr:Row c ax (B8 x)) (hn:ax=none→cx=0):Fo 66 [.slice ax x.length cx] c v x:=fun b a cp l hl=>by
 refine Tr.inb Tryz.func66 ?_;refine go ?_;refine vgr hr hn (B8_one x) (fun a' cp'=>?_);refine go ?_;exact vbr0 (M2:=[]) (R2:=[]) ⟨a',cp',l++x⟩ rfl (hM:=by simp) (hR:=by simp[B8_append])
theorem fo_one (n:Nat) (h:n≤255):Fo 27 [.int .u8 n] c v (by1 n):=fun b a cp l hl=>by
 refine Tr.inb Tryz.func27 ?_
 repeat' first|refine go ?_|refine vtn (by_byte n h) fun x c' hl' hx=>?_|fail
 refine vt11 (fo_lay (by1 n) hx.row hx.nil b a cp l hl) fun y hy=>?_
 refine go ?_;exact vbr0 (M2:=[]) (R2:=[]) y hy
theorem fo_two (n:Nat) (h:n≤65535):Fo 79 [.int .u16 n] c v (by2 n):=fun b a cp l hl=>by
 refine Tr.inb Tryz.func79 ?_
 repeat' first|refine go ?_|refine vq ?_|refine vtn (by_two n h) fun x c' hl' hx=>?_|fail
 refine vt11 (fo_lay (by2 n) hx.row hx.nil b a cp l hl) fun y hy=>?_
 refine go ?_;exact vbr0 (M2:=[]) (R2:=[]) y hy
theorem fo_number (n:Nat) (h:n≤268435455):Fo 29 [.int .i64 n] c v (varL n):=fun b a cp l hl=>by
 refine Tr.inb Tryz.func29 ?_
 repeat' first|refine go ?_|refine vq ?_|refine vtn (by_var n h) fun x c' hl' hx=>?_|fail
 refine vt11 (fo_lay (varL n) hx.row hx.nil b a cp l hl) fun y hy=>?_
 refine go ?_;exact vbr0 (M2:=[]) (R2:=[]) y hy
theorem fo_bin (s:ByteArray) (h:s.size≤65535):Fo 129 [.string s] c v (binBy s):=fun b a cp l hl=>by
 refine Tr.inb Tryz.func129 ?_
 repeat' first|refine go ?_|refine vq ?_|refine vtn (by_bin s h) fun x c' hl' hx=>?_|fail
 refine vt11 (fo_lay (binBy s) hx.row hx.nil b a cp l hl) fun y hy=>?_
 refine go ?_;exact vbr0 (M2:=[]) (R2:=[]) y hy
theorem fo_sec (hv:v=4∨v=5) (hT:Tabs c) {ax:Option Addr} {n:Nat} {K:List Pr} (hr:Row c ax (PC K)) (hk:K.length≤100000) (hw:∀ p∈K,p.wf'):Fo 77 [.slice ax K.length n] c v (secB v K):=fun b a cp l hl=>by
 refine Tr.inb Tryz.func77 ?_;rcases hv with rfl|rfl
 ·repeat' first|refine go ?_|fail
  exact vbr0 (M2:=[]) (R2:=[]) ⟨a,cp,l⟩ (by simp[secB])
 ·repeat' first|refine go ?_|refine vtn (by_put hT hr hk hw) fun x c' hl' hx=>?_|fail
  refine vt11 (fo_lay (putL [] K) hx.row hx.nil b a cp l hl) fun y hy=>?_
  refine go ?_;exact vbr0 (M2:=[]) (R2:=[]) y hy
end
section
variable {c:World} {v:Int}
theorem by_len (s:ByteArray):s.data.toList.length=s.size:=by rw[Array.length_toList];rfl
theorem fo_publish (p:Pk) (s:Sl) (hT:Tabs c) (hp:p.At s c) (hF:Fit p) (hR:Ri v p):Fo 78 [p.val s] c v (publB v p):=fun b a cp l hl=>by
 have hid:=hF.id;simp only[publB,List.length_append,by_len]at hl;refine Tr.inb Tryz.func78 ?_;refine go ?_;refine vA fun b0=>?_
 refine go ?_;refine vt11b (fo_bin p.topic hR.topic _ _ _ l (by omega)) fun y1 h1=>?_
 refine go ?_;refine vck (fun y:FoX=>[(0,pt b),(3,pt b0)]) (fun _=>c) (fun y=>[⟨b0,34,p.li s⟩,fmB b v (.slice y.a y.l.length y.cp)]) (fun y=>[byR y.a y.cp y.l]) (fun y=>y.l=y1.l++if p.qos=0 then [] else by2 p.id) ?_ fun y2 h2=>?_
 ·refine vc (fun q=>?_) fun q=>?_
  ·refine go ?_
   refine vt11b (fo_two p.id (by omega) _ _ _ y1.l (by rw[if_neg (by omega)]at hl;rw[h1];simp only[List.length_append];omega)) fun y2 h2=>?_
   refine go ?_;exact vj y2 (by rw[h2,if_neg (by omega)])
  ·refine go ?_
   exact vj y1 (by rw[if_pos (by omega)];simp)
 ·have h3:y2.l.length+(secB v p.props).length+p.load.size≤1000000000:=by simp only[h2,h1,List.length_append];omega
  refine go ?_;refine vt11b (fo_sec hR.hv hT (n:=s.pc) hp.hp hF.few.hp hF.wf.p _ _ _ y2.l (by omega)) fun y3 h4=>?_
  have h5:y3.l.length+p.load.size≤100000000000:=by simp only[h4,List.length_append];omega
  refine go ?_;refine vh [0] ?_;refine go ?_;refine vqx 1 ?_;refine vqx 1 ?_;refine vqlm ?_;refine vqgs fun a' cp'=>?_
  refine go ?_;exact ved (vbr0 (M2:=[]) (R2:=[]) ⟨a',cp',y3.l++p.load.data.toList⟩ (by simp[publB,h1,h2,h4]) (hM:=by simp[by_len]) (hR:=by simp[B8_append,by_len]))
theorem fo_short (p:Pk) (s:Sl) (hT:Tabs c) (hp:p.At s c) (hF:Fit p) (hv:v=4∨v=5):Fo 80 [p.val s] c v (shortB v p):=fun b a cp l hl=>by
  have hc:=hF.code;refine Tr.inb Tryz.func80 ?_;refine go ?_;refine vA fun b0=>?_
  refine go ?_
  by_cases h1:v=4∨(p.code=0∧p.props.length=0)
  · have e:shortB v p=[]:=if_pos h1
    repeat' first|refine vg (fun _=>?_) fun _=>?_|refine vc (fun _=>?_) fun _=>?_|refine go ?_|exact ved (vbr0 (M2:=[]) (R2:=[]) ⟨a,cp,l⟩ (by simp[e]))|(exfalso;omega)|fail
  · have e:shortB v p=by1 p.code++if p.props.length=0 then [] else secB v p.props:=by
      unfold shortB;rw[if_neg h1]
      split<;>simp
    rw[e,List.length_append]at hl;have h9:(by1 p.code).length=1:=rfl;have hn:v=5:=by omega
    repeat' first|refine vg (fun _=>?_) fun _=>?_|refine vcF ?_|refine go ?_|(exfalso;omega)|fail
    all_goals refine vt11b (fo_one p.code (by omega) _ _ _ l (by omega)) fun y1 h2=>?_
    all_goals by_cases q:p.props.length=0
    all_goals first
      | (exfalso;omega)
      | (refine go ?_
         exact ved (vbr0 (M2:=[]) (R2:=[]) y1 (by rw[e,h2,if_pos q];simp)))
      | (rw[if_neg q]at hl
         refine go ?_;refine vt11b (fo_sec hv hT (n:=s.pc) hp.hp hF.few.hp hF.wf.p _ _ _ y1.l (by rw[h2];simp only[List.length_append];omega)) fun y2 h3=>?_
         refine go ?_;exact ved (vbr0 (M2:=[]) (R2:=[]) y2 (by rw[e,h3,h2,if_neg q];simp)))
theorem filtB_app (k:Int):∀ l m:List Fi,filtB k (l++m)=filtB k l++filtB k m
 | [],m=>rfl
 | f :: l,m=>by simp[filtB,filtB_app k l m]
theorem fo_filters (p:Pk) (s:Sl) (hp:p.At s c) (hF:Fit p) (hR:Ri v p):Fo 81 [p.val s] c v (filtB p.kind p.filters):=fun b a cp l hl=>by
 have hf:=hR.nf;refine Tr.inb Tryz.func81 ?_;refine go ?_;refine vA fun b0=>?_
 refine go ?_;refine vlo (fun (x:Nat × FoX)=>[(0,pt b),(3,pt b0),(7,.slice s.fa p.filters.length s.fc),(8,.int .i64 p.filters.length),(9,.int .i64 x.1)]) (fun _=>c) (fun x=>[⟨b0,34,p.li s⟩,fmB b v (.slice x.2.a x.2.l.length x.2.cp)]) (fun x=>[byR x.2.a x.2.cp x.2.l]) (fun x=>x.1≤p.filters.length∧x.2.l=l++filtB p.kind (p.filters.take x.1)) (fun x=>p.filters.length - x.1) (0,⟨a,cp,l⟩) ⟨by omega,by simp[filtB]⟩ fun ⟨j,y⟩ hj=>?_
 obtain ⟨hj1,hj2⟩:=hj;dsimp only at hj1 hj2;rcases Nat.lt_or_ge j p.filters.length with h|h
 ·obtain ⟨b2,o2,hQ⟩:=hp.hf.fi h
  have h1:=hR.filt _ (List.getElem_mem h);have h2:=hF.opt _ (List.getElem_mem h)
  have e1:filtB p.kind (p.filters.take (j+1))=filtB p.kind (p.filters.take j)++(binBy p.filters[j].text++if p.kind=8 then by1 p.filters[j].opt else []):=by
   rw[List.take_succ_eq_append_getElem h,filtB_app];simp[filtB]
  have hle:(filtB p.kind (p.filters.take (j+1))).length≤(filtB p.kind p.filters).length:=by
   conv=>rhs;rw[← List.take_append_drop (j+1) p.filters,filtB_app,List.length_append]
   omega
  rw[e1]at hle;simp only[List.length_append]at hle;refine go ?_;refine vA fun b3=>?_
  refine go ?_;refine vt11c (fo_bin p.filters[j].text h1 _ _ _ y.l (by rw[hj2];simp only[List.length_append];omega)) fun y1 h3=>?_
  refine go ?_;refine vc (fun q=>?_) fun q=>?_
  ·rw[if_pos q]at hle e1
   refine go ?_;refine vt11c (fo_one p.filters[j].opt (by omega) _ _ _ y1.l (by rw[h3,hj2];simp only[List.length_append];omega)) fun y2 h4=>?_
   refine go ?_;exact ved (vj (j+1,y2) ⟨by dsimp only;omega,by dsimp only;rw[h4,h3,hj2,e1];simp⟩)
  ·rw[if_neg q]at e1
   refine go ?_;exact ved (vj (j+1,y1) ⟨by dsimp only;omega,by dsimp only;rw[h3,hj2,e1];simp⟩)
 ·refine go ?_
  rw[List.take_of_length_le h]at hj2;exact ved (vbr0 (M2:=[]) (R2:=[]) y hj2)
abbrev fmL (b b0:Nat):List (Nat × Value):=[(0,pt b),(3,pt b0)]
abbrev fmM (b b0:Nat) (v:Int) (p:Pk) (s:Sl) (y:FoX):List Bl:=[⟨b0,34,p.li s⟩,fmB b v (.slice y.a y.l.length y.cp)]
abbrev fmR (y:FoX):List Rwv:=[byR y.a y.cp y.l]
theorem fo_connect (p:Pk) (s:Sl) (hT:Tabs c) (hp:p.At s c) (hF:Fit p) (hR:Ri v p):Fo 76 [p.val s] c v (connB v p):=fun b a cp l hl=>by
 have hk:=hF.keep;have hw:=hF.few.hw;have hv:=hR.hv;have c1:=ck_connectFlags (c:=c) v p s hR;have h246:=conFlN_lt hR;have hm:mqtt.size≤65535:=by decide
 have l1:(by1 v.toNat).length=1:=rfl;have l2:(by1 (conFlN p)).length=1:=rfl;have l3:(by2 p.keep).length=2:=rfl;simp only[connB,List.length_append]at hl
 have o1:Fo 27 [.int .u8 v] c v (by1 v.toNat):=by
  rcases hv with rfl|rfl
  ·exact fo_one 4 (by omega)
  ·exact fo_one 5 (by omega)
 refine Tr.inb Tryz.func76 ?_;refine go ?_;refine vA fun b0=>?_
 refine go ?_;refine vt11b (fo_bin mqtt hm _ _ _ l (by omega)) fun y1 h1=>?_
 have g1:y1.l.length=l.length+(binBy mqtt).length:=by rw[h1,List.length_append]
 refine go ?_;refine vt11b (o1 _ _ _ y1.l (by omega)) fun y2 h2=>?_
 have g2:y2.l.length=y1.l.length+1:=by rw[h2,List.length_append,l1]
 refine go ?_;refine vt11b (fo_one (conFlN p) (by omega) _ _ _ y2.l (by omega)) fun y3 h3=>?_
 have g3:y3.l.length=y2.l.length+1:=by rw[h3,List.length_append,l2]
 refine go ?_;refine vt11b (fo_two p.keep (by omega) _ _ _ y3.l (by omega)) fun y4 h4=>?_
 have g4:y4.l.length=y3.l.length+2:=by rw[h4,List.length_append,l3]
 refine go ?_;refine vt11b (fo_sec hv hT (n:=s.pc) hp.hp hF.few.hp hF.wf.p _ _ _ y4.l (by omega)) fun y5 h5=>?_
 have g5:y5.l.length=y4.l.length+(secB v p.props).length:=by rw[h5,List.length_append]
 refine go ?_;refine vt11b (fo_bin p.client hR.client _ _ _ y5.l (by omega)) fun y6 h6=>?_
 have g6:y6.l.length=y5.l.length+(binBy p.client).length:=by rw[h6,List.length_append]
 refine go ?_;refine vck (fun _=>fmL b b0) (fun _=>c) (fmM b b0 v p s) fmR (fun y=>y.l=y6.l++if p.hasWill=true then secB v p.willProps++binBy p.willTopic++binBy p.willLoad else []) ?_ fun y7 h7=>?_
 ·refine vc (fun q=>?_) fun q=>?_
  ·rw[if_pos q,List.length_append,List.length_append]at hl
   rw[if_pos q];refine go ?_;refine vt11b (fo_sec hv hT (n:=s.wc) hp.hw hF.few.hw hF.wf.w _ _ _ y6.l (by omega)) fun z1 k1=>?_
   have e1:z1.l.length=y6.l.length+(secB v p.willProps).length:=by rw[k1,List.length_append]
   refine go ?_;refine vt11b (fo_bin p.willTopic hR.willTopic _ _ _ z1.l (by omega)) fun z2 k2=>?_
   have e2:z2.l.length=z1.l.length+(binBy p.willTopic).length:=by rw[k2,List.length_append]
   refine go ?_;refine vt11b (fo_bin p.willLoad hR.willLoad _ _ _ z2.l (by omega)) fun z3 k3=>?_
   refine go ?_;exact vj z3 (by rw[k3,k2,k1];simp)
  ·rw[if_neg (by simp[q])]
   refine go ?_;exact vj y6 (by simp)
 have g7:y7.l.length=y6.l.length+(if p.hasWill=true then secB v p.willProps++binBy p.willTopic++binBy p.willLoad else []).length:=by rw[h7,List.length_append]
 refine go ?_;refine vck (fun _=>fmL b b0) (fun _=>c) (fmM b b0 v p s) fmR (fun y=>y.l=y7.l++if p.hasUser=true then binBy p.user else []) ?_ fun y8 h8=>?_
 ·refine vc (fun q=>?_) fun q=>?_
  ·rw[if_pos q]at hl
   rw[if_pos q];refine go ?_;refine vt11b (fo_bin p.user hR.user _ _ _ y7.l (by omega)) fun z1 k1=>?_
   refine go ?_;exact vj z1 k1
  ·rw[if_neg (by simp[q])]
   refine go ?_;exact vj y7 (by simp)
 have g8:y8.l.length=y7.l.length+(if p.hasUser=true then binBy p.user else []).length:=by rw[h8,List.length_append]
 refine go ?_;refine vc (fun q=>?_) fun q=>?_
 ·rw[if_pos q]at hl
  refine go ?_;refine vt11b (fo_bin p.pass hR.pass _ _ _ y8.l (by omega)) fun y9 h9=>?_
  refine go ?_;exact ved (vbr0 (M2:=[]) (R2:=[]) y9 (by rw[h9,h8,h7,h6,h5,h4,h3,h2,h1,connB,if_pos q];simp only[List.append_assoc]))
 ·refine go ?_
  exact ved (vbr0 (M2:=[]) (R2:=[]) y8 (by rw[h8,h7,h6,h5,h4,h3,h2,h1,connB,if_neg (c:=p.hasPass=true) (by simp[q])];simp only[List.append_assoc,List.append_nil]))
end
end Go.Proofs.YtohmcfmcbibbcaaGreatDoor
