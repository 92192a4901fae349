import Derived.Test.YtdeecgmihfakgaaGreatDoorYFG
import Derived.Test.YtdeecgmihfakgaaGreatDoorYF8
import Derived.Test.YtdeecgmihfakgaaGreatDoorYF3
import Derived.Test.YtdeecgmihfakgaaGreatDoorYFV
import Derived.Test.YtdeecgmihfakgaaGreatDoorYFB
import Derived.Test.YtdeecgmihfakgaaGreatDoorYFI
import Derived.Test.YtdeecgmihfakgaaGreatDoorYFK
namespace Go.Proofs.YtdeecgmihfakgaaGreatDoor
open Go.RowKit
set_option linter.unusedVariables false
set_option linter.unusedSimpArgs false
set_option maxRecDepth 100000
def by1 (n:Nat):List UInt8:=[byteOf (n:Int)]
def by2 (n:Nat):List UInt8:=[byteOf ((n:Int) / 256),byteOf ((n:Int) % 256)]
def bitN (b:Bool) (n:Nat):Nat:=if b then n else 0
def mqtt:ByteArray:=⟨#[77,81,84,84]⟩
def flagsN (p:Pk):Nat:=if p.kind=3 then bitN p.retain 1+2 * p.qos+bitN p.dup 8 else if p.kind=6∨p.kind=8∨p.kind=10 then 2 else 0
def conFlN (p:Pk):Nat:=bitN p.clean 2+bitN p.hasWill 4+8 * p.willQoS+bitN p.willRetain 32+bitN p.hasPass 64+bitN p.hasUser 128
def secB (v:Int) (L:List Pr):List UInt8:=if v=4 then [] else putL [] L
def shortB (v:Int) (p:Pk):List UInt8:=if v=4∨(p.code=0∧p.props.length=0) then [] else if p.props.length=0 then by1 p.code else by1 p.code++secB v p.props
def filtB (k:Int):List Fi→List UInt8
 | []=>[]
 | f :: l=>binBy f.text++(if k=8 then by1 f.opt else [])++filtB k l
def connB (v:Int) (p:Pk):List UInt8 :=
 binBy mqtt++by1 v.toNat++by1 (conFlN p)++by2 p.keep++secB v p.props++binBy p.client++(if p.hasWill=true then secB v p.willProps++binBy p.willTopic++binBy p.willLoad else [])++(if p.hasUser=true then binBy p.user else [])++(if p.hasPass=true then binBy p.pass else [])
def publB (v:Int) (p:Pk):List UInt8:=binBy p.topic++(if p.qos=0 then [] else by2 p.id)++secB v p.props++p.load.data.toList
def behB (v:Int) (p:Pk):List UInt8 :=
 if p.kind=1 then connB v p
 else if p.kind=2 then by1 (bitN p.present 1)++by1 p.code++secB v p.props
 else if p.kind=3 then publB v p
 else if p.kind=4∨p.kind=5∨p.kind=6∨p.kind=7 then by2 p.id++shortB v p
 else if p.kind=8∨p.kind=10 then by2 p.id++secB v p.props++filtB p.kind p.filters
 else if p.kind=9∨p.kind=11 then by2 p.id++secB v p.props++p.codes
 else if p.kind=14∨p.kind=15 then shortB v p
 else []
def encB (v:Int) (p:Pk):List UInt8:=by1 (16 * p.kind.toNat+flagsN p)++varL (behB v p).length++behB v p
theorem b1_len (n:Nat):(by1 n).length=1:=rfl
theorem b2_len (n:Nat):(by2 n).length=2:=rfl
theorem binBy_len (s:ByteArray):(binBy s).length=2+s.size:=by
 simp[binBy];omega
theorem secB_len (v:Int) (L:List Pr) (h:∀ p∈L,p.wf'):(secB v L).length=secN v L:=by
 unfold secB secN putL sizeR
 split
 ·rfl
 ·split
  ·rename_i n hn
   have:=(lenGo_some L 0 n h hn (by omega)).2.1
   simp[addVar];omega
  ·rfl
theorem shortB_len (v:Int) (p:Pk) (h:∀ x∈p.props,x.wf'):(shortB v p).length=shortN v p:=by
 unfold shortB shortN
 split
 ·rfl
 ·split
  ·rfl
  ·simp[b1_len,secB_len v p.props h]
theorem filtB_len (k:Int):∀ L:List Fi,(filtB k L).length=filtersN k L
 | []=>rfl
 | f :: l=>by
  simp only[filtB,filtersN,List.length_append,binBy_len,filtB_len k l]
  split<;>simp[b1_len]
theorem connB_len (v:Int) (p:Pk) (h:∀ x∈p.props,x.wf') (h2:∀ x∈p.willProps,x.wf'):(connB v p).length=connectN v p:=by
 unfold connB connectN;simp only[List.length_append,b1_len,b2_len,binBy_len,secB_len v p.props h];have e:mqtt.size=4:=rfl;rw[e];cases p.hasWill<;>cases p.hasUser<;>cases p.hasPass<;>simp[binBy_len,secB_len v p.willProps h2]<;>omega
theorem behB_len (v:Int) (p:Pk) (h:Wf p):(behB v p).length=restN v p:=by
 have h1:=h.p;have h2:=h.w;unfold behB restN
 by_cases k1:p.kind=1
 ·rw[if_pos k1,if_pos k1];exact connB_len v p h1 h2
 rw[if_neg k1,if_neg k1]
 by_cases k2:p.kind=2
 ·rw[if_pos k2,if_pos k2];simp only[List.length_append,b1_len,secB_len v p.props h1]
 rw[if_neg k2,if_neg k2]
 by_cases k3:p.kind=3
 ·rw[if_pos k3,if_pos k3]
  unfold publB;simp only[List.length_append,binBy_len,secB_len v p.props h1];have e:p.load.data.toList.length=p.load.size:=by rw[Array.length_toList];rfl
  rw[e]
  by_cases q:p.qos=0
  ·rw[if_pos q,if_pos q];rfl
  ·rw[if_neg q,if_neg q,b2_len]
 rw[if_neg k3,if_neg k3]
 by_cases k4:p.kind=4∨p.kind=5∨p.kind=6∨p.kind=7
 ·rw[if_pos k4,if_pos k4];simp only[List.length_append,b2_len,shortB_len v p h1]
 rw[if_neg k4,if_neg k4]
 by_cases k8:p.kind=8∨p.kind=10
 ·rw[if_pos k8,if_pos k8];simp only[List.length_append,b2_len,secB_len v p.props h1,filtB_len]
 rw[if_neg k8,if_neg k8]
 by_cases k9:p.kind=9∨p.kind=11
 ·rw[if_pos k9,if_pos k9];simp only[List.length_append,b2_len,secB_len v p.props h1]
 rw[if_neg k9,if_neg k9]
 by_cases k14:p.kind=14∨p.kind=15
 ·rw[if_pos k14,if_pos k14];exact shortB_len v p h1
 rw[if_neg k14,if_neg k14];rfl
theorem nameB_le {s:ByteArray} (h:nameB s=true):s.size≤65535:=by
 unfold nameB at h;simp only[Bool.and_eq_true]at h;exact okText_size h.1
structure Ri (v:Int) (p:Pk):Prop where
 hv:v=4∨v=5
 k1:1≤p.kind
 k2:p.kind≤15
 bare:p=bareP p
 qos:p.qos≤2
 wq:p.willQoS≤2
 client:p.client.size≤65535
 user:p.user.size≤65535
 pass:p.pass.size≤65535
 willTopic:p.willTopic.size≤65535
 willLoad:p.willLoad.size≤65535
 topic:p.topic.size≤65535
 filt:∀ f∈p.filters,f.text.size≤65535
 nf:p.filters.length≤1024
 nc:p.codes.length≤1024
 rest:restN v p≤268435455
theorem zk_of {p:Pk} (hb:p=bareP p) (h1:p.kind≠1):p.willQoS=0∧p.client=⟨#[]⟩∧p.user=⟨#[]⟩∧p.pass=⟨#[]⟩∧p.willTopic=⟨#[]⟩∧p.willLoad=⟨#[]⟩:=by
 rw[hb];unfold bareP;rw[if_neg h1]
 repeat' split
 all_goals exact ⟨rfl,rfl,rfl,rfl,rfl,rfl⟩
theorem zk_pub {p:Pk} (hb:p=bareP p) (h1:p.kind≠3):p.qos=0∧p.topic=⟨#[]⟩:=by
 rw[hb];unfold bareP
 repeat' split
 all_goals first|exact ⟨rfl,rfl⟩|contradiction
theorem zk_filt {p:Pk} (hb:p=bareP p) (h1:¬ (p.kind=8∨p.kind=10)):p.filters=[]:=by
 rw[hb];unfold bareP
 repeat' split
 all_goals first|rfl|contradiction
theorem zk_cod {p:Pk} (hb:p=bareP p) (h1:¬ (p.kind=9∨p.kind=11)):p.codes=[]:=by
 rw[hb];unfold bareP
 repeat' split
 all_goals first|rfl|contradiction
theorem right_ri {v:Int} {p:Pk} (h:rightP v p=true):Ri v p:=by
 unfold rightP at h;simp only[Bool.and_eq_true,decide_eq_true_eq]at h;obtain ⟨hE,hb,-,hF,hr⟩:=h;obtain ⟨hv,hk1,hk2⟩:=exists_v hE;have e0:(⟨#[]⟩:ByteArray).size=0:=rfl
 have hc:p.willQoS≤2∧p.client.size≤65535∧p.user.size≤65535∧p.pass.size≤65535∧p.willTopic.size≤65535∧p.willLoad.size≤65535:=by
  by_cases h1:p.kind=1
  ·unfold fieldsB at hF
   rw[if_pos h1]at hF;unfold connectB at hF;simp only[Bool.and_eq_true,decide_eq_true_eq]at hF;obtain ⟨q1,q2,q3,q4,-⟩:=hF;refine ⟨?_,okText_size q1,okText_size q2,q3,?_⟩
   ·cases hw:p.hasWill with
    | true=>rw[hw]at q4;simp[willOkB]at q4;exact q4.1
    | false =>
     have:p.willQoS=(bareP p).willQoS:=congrArg Pk.willQoS hb
     rw[this];unfold bareP;rw[if_pos h1,hw];simp
   ·cases hw:p.hasWill with
    | true=>rw[hw]at q4;simp[willOkB]at q4;exact ⟨nameB_le q4.2.1,q4.2.2⟩
    | false =>
     have h8:p.willTopic=(bareP p).willTopic:=congrArg Pk.willTopic hb;have h9:p.willLoad=(bareP p).willLoad:=congrArg Pk.willLoad hb;rw[h8,h9];unfold bareP;rw[if_pos h1,hw];simp[e0]
  ·obtain ⟨a,b,c,d,e,f⟩:=zk_of hb h1
   rw[a,b,c,d,e,f];simp[e0]
 have hp:p.qos≤2∧p.topic.size≤65535:=by
  by_cases h1:p.kind=3
  ·unfold fieldsB at hF
   rw[if_neg (by omega),if_neg (by omega),if_pos h1]at hF;unfold publishB at hF
   split at hF
   ·cases hF
   ·rename_i hq
    refine ⟨by omega,?_⟩
    split at hF
    ·cases hF
    ·split at hF
     ·rename_i h5;omega
     ·exact nameB_le hF
  ·obtain ⟨a,b⟩:=zk_pub hb h1
   rw[a,b];simp[e0]
 have hf:(∀ f∈p.filters,f.text.size≤65535)∧p.filters.length≤1024:=by
  by_cases h1:p.kind=8∨p.kind=10
  ·unfold fieldsB at hF
   rw[if_neg (by omega),if_neg (by omega),if_neg (by omega),if_neg (by omega),if_pos h1]at hF;unfold filtersB at hF;simp only[Bool.and_eq_true,decide_eq_true_eq,List.all_eq_true]at hF;exact ⟨fun f hf=>filterB_size (hF.2.2.2 f hf).1,hF.2.2.1⟩
  ·rw[zk_filt hb h1]
   simp
 have hcd:p.codes.length≤1024:=by
  by_cases h1:p.kind=9∨p.kind=11
  ·unfold fieldsB at hF
   rw[if_neg (by omega),if_neg (by omega),if_neg (by omega),if_neg (by omega),if_neg (by omega),if_pos h1]at hF;unfold codesB at hF;simp only[Bool.and_eq_true]at hF;have hF:=hF.2
   split at hF
   ·have:=of_decide_eq_true hF;omega
   ·simp only[Bool.and_eq_true,decide_eq_true_eq]at hF
    exact hF.2.1
  ·rw[zk_cod hb h1]
   simp
 exact ⟨hv,hk1,hk2,hb,hp.1,hc.1,hc.2.1,hc.2.2.1,hc.2.2.2.1,hc.2.2.2.2.1,hc.2.2.2.2.2,hp.2,hf.1,hf.2,hcd,hr⟩
def Fm (w0 w:World) (f:Nat) (v:Int) (k:Nat) (l:List UInt8):Prop :=
 ∃ a c,Blk w f 104 #[.int .i64 v,.slice a l.length c]∧w.ownsRow w0.heap.size 5 1 (.slice a l.length c) l.length (B8 l)∧w0.heap.size≤f∧l.length≤k * 1000000000
def Ft (w0 w:World) (f:Nat):Nat→Prop:=fun b=>b=f∨(w0.heap.size≤b∧∃ cs,Blk w b 5 cs)
structure FmK (w0 w:World) (f:Nat) (v:Int) (k:Nat) (l:List UInt8) (W:World):Prop where
 m:Fm w0 W f v k l
 k:Kept (Ft w0 w f) w W
def FmP (w0 w:World) (f:Nat) (v:Int) (k:Nat) (l:List UInt8):Value→World→Prop:=fun u W=>u=.tuple #[]∧FmK w0 w f v k l W
section
variable {w0 w W W':World} {f:Nat} {v:Int} {k k':Nat} {l l' m:List UInt8} {M:List Bk}
theorem blk_one {w:World} {b:Nat} {t t':TypeId} {c c':Array Value} (h:Blk w b t c) (h':Blk w b t' c'):t=t':=by
 unfold Blk at h h';rw[h]at h';injection h' with h';injection h' with _ h' _
theorem Fm.no (h:Fm w0 W f v k l) (hk:Kept No W W'):Fm w0 W' f v k l:=by
 obtain ⟨a,c,hB,hO,hf,hl⟩:=h;exact ⟨a,c,hB.kept hk (fun q=>q),own_keptNo hO hk,hf,hl⟩
theorem FmK.no (h:FmK w0 w f v k l W) (hk:Kept No W W'):FmK w0 w f v k l W':=⟨h.m.no hk,h.k.then hk (fun _ _ q=>q.elim)⟩
theorem Fm.start (h:Fm w0 w f v k l):FmK w0 w f v k l w:=⟨h,Kept.refl _ _⟩
theorem FmK.is (h:FmK w0 w f v k l W) (e:l=l') (hk:k≤k'):FmK w0 w f v k' l' W:=by
 subst e;obtain ⟨⟨a,c,hB,hO,hf,hl⟩,h2⟩:=h;have hb:k * 1000000000≤k' * 1000000000:=Nat.mul_le_mul hk (Nat.le_refl _);exact ⟨⟨a,c,hB,hO,hf,Nat.le_trans hl hb⟩,h2⟩
theorem FmK.step (h:FmK w0 w f v k l W) (h2:FmK w0 W f v k' l' W'):FmK w0 w f v k' l' W' :=
 ⟨h2.m,h.k.then h2.k (fun i hi hT=>by
  rcases hT with rfl|⟨h3,cs,hB⟩
  ·exact .inl rfl
  ·by_cases hF:Ft w0 w f i
   ·exact hF
   ·have:=h.k.block i hi hF
    exact .inr ⟨h3,cs,by unfold Blk at hB ⊢;rw[← this];exact hB⟩)⟩
theorem FmK.st {b:Nat} {t:TypeId} {c:Array Value} (h:FmK w0 w f v k l W) (hb:Blk W b t c) (h1:t≠5) (h2:t≠104) (hN:w.heap.size≤b) (hk:Kept (One b) W W'):FmK w0 w f v k l W':=by
 obtain ⟨⟨a,c9,hB,hO,hf,hl⟩,hK⟩:=h;refine ⟨⟨a,c9,hB.kept hk (fun e=>?_),own_sep hO hk (fun g cur hg hc=>?_),hf,hl⟩,hK.then hk (fun i hi e=>?_)⟩
 ·have e:f=b:=e
  subst e;exact h2 (blk_one hb hB)
 ·have e:g=b:=hg
  subst e;exact h1 (blk_one hb (show Blk W g 5 cur from hc))
 ·have e:i=b:=e
  omega
theorem Hps.formed {S:Nat→Prop}:∀ {M:List Bk},Hps w0 W M→Kept S W W'→(∀ y∈M,Blk W y.b y.t y.c→¬ S y.b)→Hps w0 W' M
 | [],_,_,_=>trivial
 | x :: l,h,hk,hS=>⟨h.1.kept hk (hS x (List.mem_cons_self ..) h.1),h.2.1,h.2.2.1,Hps.formed h.2.2.2 hk (fun y hy=>hS y (List.mem_cons_of_mem _ hy))⟩
theorem Hp.formed (H:Hp w0 W M) (h1:FmK w0 w f v k l W) (h2:FmK w0 W f v k' l' W') (ht:∀ y∈M,y.t≠5∧y.t≠104):Hp w0 W' M:=by
 obtain ⟨a,c,hB,-,hf,-⟩:=h1.m;refine ⟨H.k.then h2.k (fun i hi hT=>?_),H.b.formed h2.k (fun y hy hY hT=>?_)⟩
 ·rcases hT with rfl|⟨h3,-⟩<;>omega
 ·rcases hT with rfl|⟨-,cs,h3⟩
  ·exact (ht y hy).2 (blk_one hY hB)
  ·exact (ht y hy).1 (blk_one hY h3)
theorem FmK.cell (h:FmK w0 w f v k l W):W.cell? ⟨f,0,none⟩=some (.int .i64 v):=by
 obtain ⟨a,c,hB,-⟩:=h.m;rw[hB.cell];rfl
theorem ft0 {α:Type} {P:α→Prop}:∀ y∈([]:List α),P y:=fun y hy=>by cases hy
end
section
variable {P:Program} {ops:Array Oper} {Q:Exit→Act→World→Prop} {a:Act} {w w0:World} {rest:List Oper} {N n:Nat} {L:List (Nat × Value)} {v:Value} {ty:TypeId} {ps:String} {af:Array Edge} {op:Op} {gd:Nat × Bool} {G X Y:Bool} {ρ:Operand→Value} {o:Oper}
theorem ex_nil {x:Operand} {b off:Nat} (ho:o.op=.nilCheck x) (hx:ρ x=.pointer (some ⟨b,off,none⟩)):(execOp ρ o).run P w=.ok (.value (.pointer (some ⟨b,off,none⟩))) w:=by simp[execOp,ho,hx]
theorem hz_callR {M':List Bk} {f:Nat} {args:Array Value} (R:Value→World→Prop) (F:Fr a N L) (hn:Nat.blt n N=true) (h:(execOp a.eval ⟨some n,op,ty,ps,af,none⟩).run P w=.ok (.enter f args) w)
  (hc:Calls P f args w fun e w'=>∃ v,e=.returned v∧R v w') (hH:∀ v w',R v w'→Hp w0 w' M') (k:∀ (v:Value) (w':World) (a':Act),R v w'→Hp w0 w' M'→Fr a' N ((n,v) :: L)→wpList P ops Q rest a' w'):wpList P ops Q (⟨some n,op,ty,ps,af,none⟩ :: rest) a w:=by
 unfold wpList;rw[if_pos (gx_w rfl)];left;unfold Oper.wp;rw[h];refine hc.mono ?_;rintro e w' ⟨v,rfl,hR⟩;exact k v w' _ hR (hH v w' hR) (F.put hn v)
variable {md:Region.Mode} {S:World→Prop} {fuel:Nat} {listed:Array Bool} {i:Nat}
theorem hb_callR {M':List Bk} {f:Nat} {args:Array Value} (R:Value→World→Prop) (F:Fr a N L) (hn:Nat.blt n N=true) (hi:ops[i]?=some ⟨some n,op,ty,ps,af,none⟩)
  (h:(execOp a.eval ⟨some n,op,ty,ps,af,none⟩).run P w=.ok (.enter f args) w) (hc:Calls P f args w fun e w'=>∃ v,e=.returned v∧R v w') (hH:∀ v w',R v w'→Hp w0 w' M') (hS:∀ w',Hp w0 w' M'→S w')
  (k:∀ (v:Value) (w':World) (a':Act),R v w'→Hp w0 w' M'→Fr a' N ((n,v) :: L)→wpAnyH P md ops Q S fuel (listed.setIfInBounds i true) a' w') :
  wpOp P ops Q i (fun a' w'=>S w'∧wpAnyH P md ops Q S fuel (listed.setIfInBounds i true) a' w') a w:=by
 unfold wpOp;simp only[hi];rw[if_pos (gx_w rfl)];left;unfold Oper.wp;rw[h];refine hc.mono ?_;rintro e w' ⟨v,rfl,hR⟩;exact ⟨hS w' (hH v w' hR),k v w' _ hR (hH v w' hR) (F.put hn v)⟩
theorem gx_res0 {fn:Func} (h:fn.results=#[]):(results fn a.tmps).run P w=.ok (.tuple #[]) w:=results_none h _ _ _
theorem gx_res2 {fn:Func} {t u:Nat} {x y:Value} (h:fn.results=#[.tmp t,.tmp u]) (F:Fr a N L) (h1:lk L t=some x) (h2:lk L u=some y):(results fn a.tmps).run P w=.ok (.tuple #[x,y]) w:=by
 rw[results_tmp2 h];simp[Array.getD_eq_getD_getElem?,F.g t x h1,F.g u y h2]
theorem zr0 {fn:Func} {R:Ending→World→Prop} (hR:R (.returned (.tuple #[])) w) (F:Fr a N L:=by assumption) (h:fn.results=#[]:=by rfl):bodyPost P fn R Exit.ret a w:=bodyPost_ret (gx_res0 h) F.d hR
theorem zn0 {fn:Func} {R:Ending→World→Prop} (hR:R (.returned (.tuple #[])) w) (F:Fr a N L:=by assumption) (h:fn.results=#[]:=by rfl):bodyPost P fn R Exit.normal a w:=bodyPost_end (gx_res0 h) F.d hR
theorem zr2 {fn:Func} {t u:Nat} {x y:Value} {R:Ending→World→Prop} (hR:R (.returned (.tuple #[x,y])) w) (F:Fr a N L:=by assumption) (h:fn.results=#[.tmp t,.tmp u]:=by rfl) (h1:lk L t=some x:=by rfl) (h2:lk L u=some y:=by rfl):bodyPost P fn R Exit.ret a w:=bodyPost_ret (gx_res2 h F h1 h2) F.d hR
end
def Bys (m:List UInt8) (u:Value) (w:World):Prop:=∃ a c,u=.slice a m.length c∧Row w a (B8 m)∧(a=none→c=0)
theorem OwnB.bys {w:World} {m:List UInt8} {f:Nat} {args:Array Value} (h:Calls Tryz.prog f args w (OwnB w m)):Calls Tryz.prog f args w fun e w'=>∃ v,e=.returned v∧Bys m v w'∧Kept No w w' :=
 h.mono fun e w' ⟨a,c,h1,h2,h3⟩=>⟨_,h1,⟨a,c,rfl,(own_row h2).1,fun e=>((own_row h2).2 e).2⟩,h3⟩
theorem app_bytes {w:World} {B:Nat} {v:Value} {l m:List UInt8} {pa:Option Addr} {pc:Nat} (hO:w.ownsRow B 5 1 v l.length (B8 l)) (hr:Row w pa (B8 m)) (hn:pa=none→pc=0) (h1:l.length+m.length≤140737000000000) (hB:B≤w.heap.size) :
  ∃ v9 W9,(Builtin.append_ #[25,25] 25 #[v,.slice pa m.length pc]).run Tryz.prog w=.ok v9 W9∧W9.ownsRow B 5 1 v9 (l++m).length (B8 (l++m))∧w.grownBy W9 v.ownBlock:=by
 obtain ⟨i0,hi,hz0,hz1,hz2⟩:=info_parts info_u8;cases pa with
 | some ad =>
  obtain ⟨v9,W9,q1,q2,q3,-⟩:=run_append_own (P:=Tryz.prog) w B 25 25 5 i0 _ 1 1 Tryz.underlying25 hi hz0 hz1 hz2 rfl (by decide) v _ _ hO ad m.length pc (B8 m) (by simp) (hr.at_add ad rfl) (B8_one _) (by unfold maxLen;omega) (by omega) hB;exact ⟨v9,W9,q1,by rw[List.length_append,B8_append];exact q2,q3⟩
 | none =>
  have hm:m=[]:=by rcases hr with hr|⟨_,_,hr,_⟩;exact List.map_eq_nil_iff.1 hr;cases hr
  subst hm;obtain rfl:=hn rfl;exact ⟨v,w,run_append_owned_none (P:=Tryz.prog) (w:=w) B 25 25 5 i0 1 Tryz.underlying25 hi v _ _ hO,by simpa using hO,World.grownBy.refl w _⟩
theorem app_str {w:World} {B:Nat} {v:Value} {l:List UInt8} (hO:w.ownsRow B 5 1 v l.length (B8 l)) (s:ByteArray) (h1:l.length+s.size≤140737000000000) (hB:B≤w.heap.size) :
  ∃ v9 W9,(Builtin.append_ #[25,9] 25 #[v,.string s]).run Tryz.prog w=.ok v9 W9∧W9.ownsRow B 5 1 v9 (l++s.data.toList).length (B8 (l++s.data.toList))∧w.grownBy W9 v.ownBlock:=by
 obtain ⟨i0,hi,hz0,hz1,hz2⟩:=info_parts info_u8;obtain ⟨v9,W9,q1,q2,q3,-⟩:=Lib.run_append_own_string (P:=Tryz.prog) w B 25 9 25 5 i0 Tryz.underlying25 Tryz.underlying9 hi (by rw[hz0]) hz1 hz2 v _ _ hO s (by unfold maxLen;omega) (by omega) hB;have e:s.data.toList.length=s.size:=by rw[Array.length_toList];rfl
 exact ⟨v9,W9,q1,by rw[List.length_append,B8_append,e];exact q2,q3⟩
theorem fa_104_0 (B o:Nat) (w:World):(Instr.fieldAt 104 (.pointer (some ⟨B,o,none⟩)) 0).run Tryz.prog w=.ok (.pointer (some ⟨B,o+0,none⟩)) w:=by
 have u:=Tryz.underlying104
 go_simp
instance:FA 104 0 0:=⟨fa_104_0⟩
theorem fa_104_1 (B o:Nat) (w:World):(Instr.fieldAt 104 (.pointer (some ⟨B,o,none⟩)) 1).run Tryz.prog w=.ok (.pointer (some ⟨B,o+1,none⟩)) w:=by
 have u:=Tryz.underlying104
 go_simp
instance:FA 104 1 1:=⟨fa_104_1⟩
def encL (v:Int) (p:Pk):List UInt8:=if rightP v p=true then encB v p else []
end Go.Proofs.YtdeecgmihfakgaaGreatDoor
