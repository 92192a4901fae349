import Derived.Test.YtkochkhfbhjicaaGreatDoorYFG
import Derived.Test.YtkochkhfbhjicaaGreatDoorYF8
import Derived.Test.YtkochkhfbhjicaaGreatDoorYF3
import Derived.Test.YtkochkhfbhjicaaGreatDoorYFV
import Derived.Test.YtkochkhfbhjicaaGreatDoorYFB
import Derived.Test.YtkochkhfbhjicaaGreatDoorYFI
import Derived.Test.YtkochkhfbhjicaaGreatDoorYFK
namespace Go.Proofs.YtkochkhfbhjicaaGreatDoor
set_option maxHeartbeats 4000000
open Go.RowKit
set_option linter.unusedVariables false
set_option linter.unusedSimpArgs false
set_option maxRecDepth 100000
def by1 (n:Nat):List UInt8:=[jN (n:Int)]
def by2 (n:Nat):List UInt8:=[jN ((n:Int) / 256),jN ((n:Int) % 256)]
def vG (b:Bool) (n:Nat):Nat:=if b then n else 0
def j74:ByteArray:=⟨#[77,81,84,84]⟩
def qN (p:Pk):Nat:=if p.kind=3 then vG p.retain 1+2*p.qos+vG p.dup 8 else if p.kind=6∨p.kind=8∨p.kind=10 then 2 else 0
def qT (p:Pk):Nat:=vG p.clean 2+vG p.hasWill 4+8*p.willQoS+vG p.willRetain 32+vG p.hasPass 64+vG p.hasUser 128
def qY (v:Int) (L:List Pr):List UInt8:=if v=4 then [] else j4g [] L
def vd (v:Int) (p:Pk):List UInt8:=if v=4∨(p.code=0∧p.props.length=0) then [] else if p.props.length=0 then by1 p.code else by1 p.code++qY v p.props
def vS (k:Int):List Fi→List UInt8
 | []=>[]
 | f :: l=>jR f.text++(if k=8 then by1 f.opt else [])++vS k l
def j0a (v:Int) (p:Pk):List UInt8 :=
 jR j74++by1 v.toNat++by1 (qT p)++by2 p.keep++qY v p.props++jR p.client++(if p.hasWill=true then qY v p.willProps++jR p.willTopic++jR p.willLoad else [])++(if p.hasUser=true then jR p.user else [])++(if p.hasPass=true then jR p.pass else [])
def j23 (v:Int) (p:Pk):List UInt8:=jR p.topic++(if p.qos=0 then [] else by2 p.id)++qY v p.props++p.load.data.toList
def xE (v:Int) (p:Pk):List UInt8 :=
 if p.kind=1 then j0a v p
 else if p.kind=2 then by1 (vG p.present 1)++by1 p.code++qY v p.props
 else if p.kind=3 then j23 v p
 else if p.kind=4∨p.kind=5∨p.kind=6∨p.kind=7 then by2 p.id++vd v p
 else if p.kind=8∨p.kind=10 then by2 p.id++qY v p.props++vS p.kind p.filters
 else if p.kind=9∨p.kind=11 then by2 p.id++qY v p.props++p.codes
 else if p.kind=14∨p.kind=15 then vd v p
 else []
def jFh (v:Int) (p:Pk):List UInt8:=by1 (16*p.kind.toNat+qN p)++vD (xE v p).length++xE v p
theorem j3d (n:Nat):(by1 n).length=1:=rfl
theorem j3e (n:Nat):(by2 n).length=2:=rfl
theorem xt (s:ByteArray):(jR s).length=2+s.size:=by
 simp[jR];omega
theorem j05 (v:Int) (L:List Pr) (h:∀ p∈L,p.wf'):(qY v L).length=j14 v L:=by
 unfold qY j14 j4g j6s
 split
 ·rfl
 ·split
  ·rename_i n hn
   have:=(xQ L 0 n h hn (by omega)).2.1
   simp[zl];omega
  ·rfl
theorem j6p (v:Int) (p:Pk) (h:∀ x∈p.props,x.wf'):(vd v p).length=xm v p:=by
 unfold vd xm
 split
 ·rfl
 ·split
  ·rfl
  ·simp[j3d,j05 v p.props h]
theorem j7f (k:Int):∀ L:List Fi,(vS k L).length=qZ k L
 | []=>rfl
 | f :: l=>by
  simp only[vS,qZ,List.length_append,xt,j7f k l]
  split<;>simp[j3d]
theorem jDr (v:Int) (p:Pk) (h:∀ x∈p.props,x.wf') (h2:∀ x∈p.willProps,x.wf'):(j0a v p).length=qo v p:=by
 unfold j0a qo;simp only[List.length_append,j3d,j3e,xt,j05 v p.props h];have e:j74.size=4:=rfl;rw[e];cases p.hasWill<;>cases p.hasUser<;>cases p.hasPass<;>simp[xt,j05 v p.willProps h2]<;>omega
theorem j2h (v:Int) (p:Pk) (h:Wf p):(xE v p).length=qD v p:=by
 have h1:=h.p;have h2:=h.w;unfold xE qD
 by_cases k1:p.kind=1
 ·rw[if_pos k1,if_pos k1];exact jDr v p h1 h2
 rw[if_neg k1,if_neg k1]
 by_cases k2:p.kind=2
 ·rw[if_pos k2,if_pos k2];simp only[List.length_append,j3d,j05 v p.props h1]
 rw[if_neg k2,if_neg k2]
 by_cases k3:p.kind=3
 ·rw[if_pos k3,if_pos k3]
  unfold j23;simp only[List.length_append,xt,j05 v p.props h1];have e:p.load.data.toList.length=p.load.size:=by rw[Array.length_toList];rfl
  rw[e]
  by_cases q:p.qos=0
  ·rw[if_pos q,if_pos q];rfl
  ·rw[if_neg q,if_neg q,j3e]
 rw[if_neg k3,if_neg k3]
 by_cases k4:p.kind=4∨p.kind=5∨p.kind=6∨p.kind=7
 ·rw[if_pos k4,if_pos k4];simp only[List.length_append,j3e,j6p v p h1]
 rw[if_neg k4,if_neg k4]
 by_cases k8:p.kind=8∨p.kind=10
 ·rw[if_pos k8,if_pos k8];simp only[List.length_append,j3e,j05 v p.props h1,j7f]
 rw[if_neg k8,if_neg k8]
 by_cases k9:p.kind=9∨p.kind=11
 ·rw[if_pos k9,if_pos k9];simp only[List.length_append,j3e,j05 v p.props h1]
 rw[if_neg k9,if_neg k9]
 by_cases k14:p.kind=14∨p.kind=15
 ·rw[if_pos k14,if_pos k14];exact j6p v p h1
 rw[if_neg k14,if_neg k14];rfl
theorem jAd {s:ByteArray} (h:xD s=true):s.size≤65535:=by
 unfold xD at h;simp only[aE9]at h;exact jy h.1
structure Ri (v:Int) (p:Pk):Prop where
 hv:v=4∨v=5
 k1:1≤p.kind
 k2:p.kind≤15
 bare:p=jP p
 qos:p.qos≤2
 wq:p.willQoS≤2
 client:p.client.size≤65535
 user:p.user.size≤65535
 pass:p.pass.size≤65535
 willTopic:p.willTopic.size≤65535
 willLoad:p.willLoad.size≤65535
 topic:p.topic.size≤65535
 filt:∀ f∈p.filters,f.text.size≤65535
 nf:p.filters.length≤1024
 nc:p.codes.length≤1024
 rest:qD v p≤268435455
theorem jP0 {p:Pk} (hb:p=jP p) (h1:p.kind≠1):p.willQoS=0∧p.client=⟨#[]⟩∧p.user=⟨#[]⟩∧p.pass=⟨#[]⟩∧p.willTopic=⟨#[]⟩∧p.willLoad=⟨#[]⟩:=by
 rw[hb];unfold jP;rw[if_neg h1]
 repeat' split
 all_goals exact ⟨rfl,rfl,rfl,rfl,rfl,rfl⟩
theorem jMp {p:Pk} (hb:p=jP p) (h1:p.kind≠3):p.qos=0∧p.topic=⟨#[]⟩:=by
 rw[hb];unfold jP
 repeat' split
 all_goals first|exact ⟨rfl,rfl⟩|contradiction
theorem jKd {p:Pk} (hb:p=jP p) (h1:¬ (p.kind=8∨p.kind=10)):p.filters=[]:=by
 rw[hb];unfold jP
 repeat' split
 all_goals first|rfl|contradiction
theorem jMo {p:Pk} (hb:p=jP p) (h1:¬ (p.kind=9∨p.kind=11)):p.codes=[]:=by
 rw[hb];unfold jP
 repeat' split
 all_goals first|rfl|contradiction
theorem zL {v:Int} {p:Pk} (h:qj v p=true):Ri v p:=by
 unfold qj at h;simp only[aE9,dE9]at h;obtain ⟨hE,hb,-,hF,hr⟩:=h;obtain ⟨hv,hk1,hk2⟩:=j9x hE;have e0:(⟨#[]⟩:ByteArray).size=0:=rfl
 have hc:p.willQoS≤2∧p.client.size≤65535∧p.user.size≤65535∧p.pass.size≤65535∧p.willTopic.size≤65535∧p.willLoad.size≤65535:=by
  by_cases h1:p.kind=1
  ·unfold q8 at hF
   rw[if_pos h1]at hF;unfold qk at hF;simp only[aE9,dE9]at hF;obtain ⟨q1,q2,q3,q4,-⟩:=hF;refine ⟨?_,jy q1,jy q2,q3,?_⟩
   ·cases hw:p.hasWill with
    | true=>rw[hw]at q4;simp[zA]at q4;exact q4.1
    | false =>
     have:p.willQoS=(jP p).willQoS:=congrArg Pk.willQoS hb
     rw[this];unfold jP;rw[if_pos h1,hw];simp
   ·cases hw:p.hasWill with
    | true=>rw[hw]at q4;simp[zA]at q4;exact ⟨jAd q4.2.1,q4.2.2⟩
    | false =>
     have h8:p.willTopic=(jP p).willTopic:=congrArg Pk.willTopic hb;have h9:p.willLoad=(jP p).willLoad:=congrArg Pk.willLoad hb;rw[h8,h9];unfold jP;rw[if_pos h1,hw];simp[e0]
  ·obtain ⟨a,b,c,d,e,f⟩:=jP0 hb h1
   rw[a,b,c,d,e,f];simp[e0]
 have hp:p.qos≤2∧p.topic.size≤65535:=by
  by_cases h1:p.kind=3
  ·unfold q8 at hF
   rw[if_neg (by omega),if_neg (by omega),if_pos h1]at hF;unfold j03 at hF
   split at hF
   ·cases hF
   ·rename_i hq
    refine ⟨by omega,?_⟩
    split at hF
    ·cases hF
    ·split at hF
     ·rename_i h5;omega
     ·exact jAd hF
  ·obtain ⟨a,b⟩:=jMp hb h1
   rw[a,b];simp[e0]
 have hf:(∀ f∈p.filters,f.text.size≤65535)∧p.filters.length≤1024:=by
  by_cases h1:p.kind=8∨p.kind=10
  ·unfold q8 at hF
   rw[if_neg (by omega),if_neg (by omega),if_neg (by omega),if_neg (by omega),if_pos h1]at hF;unfold vr at hF;simp only[aE9,dE9,List.all_eq_true]at hF;exact ⟨λf hf=>j2m (hF.2.2.2 f hf).1,hF.2.2.1⟩
  ·rw[jKd hb h1]
   simp
 have hcd:p.codes.length≤1024:=by
  by_cases h1:p.kind=9∨p.kind=11
  ·unfold q8 at hF
   rw[if_neg (by omega),if_neg (by omega),if_neg (by omega),if_neg (by omega),if_neg (by omega),if_pos h1]at hF;unfold zt at hF;simp only[aE9]at hF;have hF:=hF.2
   split at hF
   ·have:=of_decide_eq_true hF;omega
   ·simp only[aE9,dE9]at hF
    exact hF.2.1
  ·rw[jMo hb h1]
   simp
 exact ⟨hv,hk1,hk2,hb,hp.1,hc.1,hc.2.1,hc.2.2.1,hc.2.2.2.1,hc.2.2.2.2.1,hc.2.2.2.2.2,hp.2,hf.1,hf.2,hcd,hr⟩
theorem jDx {v:Int} {p:Pk} (h:Ri v p):qN p≤13:=by
 have:=h.qos
 unfold qN vG
 repeat' split
 all_goals omega
theorem j3f {v:Int} {p:Pk} (h:Ri v p):qT p≤246:=by
 have:=h.wq
 unfold qT vG
 repeat' split
 all_goals omega
def Fm (w0 w:World) (f:Nat) (v:Int) (k:Nat) (l:List UInt8):Prop :=
 ∃ a c,Blk w f 57 #[.int .i64 v,.slice a l.length c]∧w.ownsRow w0.heap.size 5 1 (.slice a l.length c) l.length (B8 l)∧w0.heap.size≤f∧l.length≤k*1000000000
def Ft (w0 w:World) (f:Nat):Nat→Prop:=λb=>b=f∨(w0.heap.size≤b∧∃ cs,Blk w b 5 cs)
structure FmK (w0 w:World) (f:Nat) (v:Int) (k:Nat) (l:List UInt8) (W:World):Prop where
 m:Fm w0 W f v k l
 k:Kept (Ft w0 w f) w W
def FmP (w0 w:World) (f:Nat) (v:Int) (k:Nat) (l:List UInt8):Value→World→Prop:=λu W=>u=.tuple #[]∧FmK w0 w f v k l W
section
variable {w0 w W W':World} {f:Nat} {v:Int} {k k':Nat} {l l' m:List UInt8} {M:List Bk}
theorem j1p {w:World} {b:Nat} {t t':TypeId} {c c':Array Value} (h:Blk w b t c) (h':Blk w b t' c'):t=t':=by
 unfold Blk at h h';rw[h]at h';injection h' with h';injection h' with _ h' _
theorem Fm.no (h:Fm w0 W f v k l) (hk:Kept No W W'):Fm w0 W' f v k l:=by
 obtain ⟨a,c,hB,hO,hf,hl⟩:=h;exact ⟨a,c,hB.kept hk (λq=>q),jU hO hk,hf,hl⟩
theorem FmK.no (h:FmK w0 w f v k l W) (hk:Kept No W W'):FmK w0 w f v k l W':=⟨h.m.no hk,h.k.then hk (λ_ _ q=>q.elim)⟩
theorem Fm.start (h:Fm w0 w f v k l):FmK w0 w f v k l w:=⟨h,Kept.refl _ _⟩
theorem FmK.is (h:FmK w0 w f v k l W) (e:l=l') (hk:k≤k'):FmK w0 w f v k' l' W:=by
 subst e;obtain ⟨⟨a,c,hB,hO,hf,hl⟩,h2⟩:=h;have hb:k*1000000000≤k' * 1000000000:=Nat.mul_le_mul hk (Nat.le_refl _);exact ⟨⟨a,c,hB,hO,hf,Nat.le_trans hl hb⟩,h2⟩
theorem FmK.step (h:FmK w0 w f v k l W) (h2:FmK w0 W f v k' l' W'):FmK w0 w f v k' l' W' :=
 ⟨h2.m,h.k.then h2.k (λi hi hT=>by
  rcases hT with rfl|⟨h3,cs,hB⟩
  ·exact .inl rfl
  ·by_cases hF:Ft w0 w f i
   ·exact hF
   ·have:=h.k.block i hi hF
    exact .inr ⟨h3,cs,by unfold Blk at hB ⊢;rw[← this];exact hB⟩)⟩
theorem FmK.st {b:Nat} {t:TypeId} {c:Array Value} (h:FmK w0 w f v k l W) (hb:Blk W b t c) (h1:t≠5) (h2:t≠57) (hN:w.heap.size≤b) (hk:Kept (One b) W W'):FmK w0 w f v k l W':=by
 obtain ⟨⟨a,c9,hB,hO,hf,hl⟩,hK⟩:=h;refine ⟨⟨a,c9,hB.kept hk (λe=>?_),jD6 hO hk (λg cur hg hc=>?_),hf,hl⟩,hK.then hk (λi hi e=>?_)⟩
 ·have e:f=b:=e
  subst e;exact h2 (j1p hb hB)
 ·have e:g=b:=hg
  subst e;exact h1 (j1p hb (show Blk W g 5 cur from hc))
 ·have e:i=b:=e
  omega
theorem Hps.formed {S:Nat→Prop}:∀ {M:List Bk},Hps w0 W M→Kept S W W'→(∀ y∈M,Blk W y.b y.t y.c→¬ S y.b)→Hps w0 W' M
 | [],_,_,_=>trivial
 | x :: l,h,hk,hS=>⟨h.1.kept hk (hS x (List.mem_cons_self ..) h.1),h.2.1,h.2.2.1,Hps.formed h.2.2.2 hk (λy hy=>hS y (List.mem_cons_of_mem _ hy))⟩
theorem Hp.formed (H:Hp w0 W M) (h1:FmK w0 w f v k l W) (h2:FmK w0 W f v k' l' W') (ht:∀ y∈M,y.t≠5∧y.t≠57):Hp w0 W' M:=by
 obtain ⟨a,c,hB,-,hf,-⟩:=h1.m;refine ⟨H.k.then h2.k (λi hi hT=>?_),H.b.formed h2.k (λy hy hY hT=>?_)⟩
 ·rcases hT with rfl|⟨h3,-⟩<;>omega
 ·rcases hT with rfl|⟨-,cs,h3⟩
  ·exact (ht y hy).2 (j1p hY hB)
  ·exact (ht y hy).1 (j1p hY h3)
theorem FmK.cell (h:FmK w0 w f v k l W):W.cell? ⟨f,0,none⟩=some (.int .i64 v):=by
 obtain ⟨a,c,hB,-⟩:=h.m;rw[hB.cell];rfl
theorem ft0 {α:Type} {P:α→Prop}:∀ y∈([]:List α),P y:=λy hy=>by cases hy
end
section
variable {P:Program} {ops:Array Oper} {Q:Exit→Act→World→Prop} {a:Act} {w w0:World} {rest:List Oper} {N n:Nat} {L:List (Nat × Value)} {v:Value} {ty:TypeId} {ps:String} {af:Array Edge} {op:Op} {gd:Nat × Bool} {G X Y:Bool} {ρ:Operand→Value} {o:Oper}
theorem j28 {x:Operand} {b off:Nat} (ho:o.op=.nilCheck x) (hx:ρ x=.pointer (some ⟨b,off,none⟩)):(execOp ρ o).run P w=.ok (.value (.pointer (some ⟨b,off,none⟩))) w:=by simp[execOp,ho,hx]
theorem jT {M':List Bk} {f:Nat} {args:Array Value} (R:Value→World→Prop) (F:Fr a N L) (hn:Nat.blt n N=true) (h:(execOp a.eval ⟨some n,op,ty,ps,af,none⟩).run P w=.ok (.enter f args) w)
  (hc:Calls P f args w λe w'=>∃ v,e=.returned v∧R v w') (hH:∀ v w',R v w'→Hp w0 w' M') (k:∀ (v:Value) (w':World) (a':Act),R v w'→Hp w0 w' M'→Fr a' N ((n,v) :: L)→wpList P ops Q rest a' w'):wpList P ops Q (⟨some n,op,ty,ps,af,none⟩ :: rest) a w:=by
 unfold wpList;rw[if_pos (j2u rfl)];left;unfold Oper.wp;rw[h];refine hc.mono ?_;rintro e w' ⟨v,rfl,hR⟩;exact k v w' _ hR (hH v w' hR) (F.put hn v)
variable {md:Region.Mode} {S:World→Prop} {fuel:Nat} {listed:Array Bool} {i:Nat}
theorem jGp {M':List Bk} {f:Nat} {args:Array Value} (R:Value→World→Prop) (F:Fr a N L) (hn:Nat.blt n N=true) (hi:ops[i]?=some ⟨some n,op,ty,ps,af,none⟩)
  (h:(execOp a.eval ⟨some n,op,ty,ps,af,none⟩).run P w=.ok (.enter f args) w) (hc:Calls P f args w λe w'=>∃ v,e=.returned v∧R v w') (hH:∀ v w',R v w'→Hp w0 w' M') (hS:∀ w',Hp w0 w' M'→S w')
  (k:∀ (v:Value) (w':World) (a':Act),R v w'→Hp w0 w' M'→Fr a' N ((n,v) :: L)→wpAnyH P md ops Q S fuel (listed.setIfInBounds i true) a' w') :
  wpOp P ops Q i (λa' w'=>S w'∧wpAnyH P md ops Q S fuel (listed.setIfInBounds i true) a' w') a w:=by
 unfold wpOp;simp only[hi];rw[if_pos (j2u rfl)];left;unfold Oper.wp;rw[h];refine hc.mono ?_;rintro e w' ⟨v,rfl,hR⟩;exact ⟨hS w' (hH v w' hR),k v w' _ hR (hH v w' hR) (F.put hn v)⟩
theorem jCy {fn:Func} (h:fn.results=#[]):(results fn a.tmps).run P w=.ok (.tuple #[]) w:=results_none h _ _ _
theorem jJ4 {fn:Func} {t u:Nat} {x y:Value} (h:fn.results=#[.tmp t,.tmp u]) (F:Fr a N L) (h1:lk L t=some x) (h2:lk L u=some y):(results fn a.tmps).run P w=.ok (.tuple #[x,y]) w:=by
 rw[results_tmp2 h];simp[Array.getD_eq_getD_getElem?,F.g t x h1,F.g u y h2]
theorem zr0 {fn:Func} {R:Ending→World→Prop} (hR:R (.returned (.tuple #[])) w) (F:Fr a N L:=by assumption) (h:fn.results=#[]:=by rfl):bodyPost P fn R Exit.ret a w:=bodyPost_ret (jCy h) F.d hR
theorem zn0 {fn:Func} {R:Ending→World→Prop} (hR:R (.returned (.tuple #[])) w) (F:Fr a N L:=by assumption) (h:fn.results=#[]:=by rfl):bodyPost P fn R Exit.normal a w:=bodyPost_end (jCy h) F.d hR
theorem zr2 {fn:Func} {t u:Nat} {x y:Value} {R:Ending→World→Prop} (hR:R (.returned (.tuple #[x,y])) w) (F:Fr a N L:=by assumption) (h:fn.results=#[.tmp t,.tmp u]:=by rfl) (h1:lk L t=some x:=by rfl) (h2:lk L u=some y:=by rfl):bodyPost P fn R Exit.ret a w:=bodyPost_ret (jJ4 h F h1 h2) F.d hR
end
def Bys (m:List UInt8) (u:Value) (w:World):Prop:=∃ a c,u=.slice a m.length c∧Row w a (B8 m)∧(a=none→c=0)
theorem OwnB.bys {w:World} {m:List UInt8} {f:Nat} {args:Array Value} (h:Calls Tryz.prog f args w (OwnB w m)):Calls Tryz.prog f args w λe w'=>∃ v,e=.returned v∧Bys m v w'∧Kept No w w' :=
 h.mono λe w' ⟨a,c,h1,h2,h3⟩=>⟨_,h1,⟨a,c,rfl,(ju h2).1,λe=>((ju h2).2 e).2⟩,h3⟩
theorem jDl {w:World} {B:Nat} {v:Value} {l m:List UInt8} {pa:Option Addr} {pc:Nat} (hO:w.ownsRow B 5 1 v l.length (B8 l)) (hr:Row w pa (B8 m)) (hn:pa=none→pc=0) (h1:l.length+m.length≤140737000000000) (hB:B≤w.heap.size) :
  ∃ v9 W9,(Builtin.append_ #[25,25] 25 #[v,.slice pa m.length pc]).run Tryz.prog w=.ok v9 W9∧W9.ownsRow B 5 1 v9 (l++m).length (B8 (l++m))∧w.grownBy W9 v.ownBlock:=by
 obtain ⟨i0,hi,hz0,hz1,hz2⟩:=info_parts qe;cases pa with
 | some ad =>
  obtain ⟨v9,W9,q1,q2,q3,-⟩:=run_append_own (P:=Tryz.prog) w B 25 25 5 i0 _ 1 1 Tryz.underlying25 hi hz0 hz1 hz2 rfl (by decide) v _ _ hO ad m.length pc (B8 m) (by simp) (hr.at_add ad rfl) (vW _) (by unfold maxLen;omega) (by omega) hB;exact ⟨v9,W9,q1,by rw[List.length_append,jt];exact q2,q3⟩
 | none =>
  have hm:m=[]:=by rcases hr with hr|⟨_,_,hr,_⟩;exact List.map_eq_nil_iff.1 hr;cases hr
  subst hm;obtain rfl:=hn rfl;exact ⟨v,w,run_append_owned_none (P:=Tryz.prog) (w:=w) B 25 25 5 i0 1 Tryz.underlying25 hi v _ _ hO,by simpa using hO,World.grownBy.refl w _⟩
theorem jHy {w:World} {B:Nat} {v:Value} {l:List UInt8} (hO:w.ownsRow B 5 1 v l.length (B8 l)) (s:ByteArray) (h1:l.length+s.size≤140737000000000) (hB:B≤w.heap.size) :
  ∃ v9 W9,(Builtin.append_ #[25,9] 25 #[v,.string s]).run Tryz.prog w=.ok v9 W9∧W9.ownsRow B 5 1 v9 (l++s.data.toList).length (B8 (l++s.data.toList))∧w.grownBy W9 v.ownBlock:=by
 obtain ⟨i0,hi,hz0,hz1,hz2⟩:=info_parts qe;obtain ⟨v9,W9,q1,q2,q3,-⟩:=Lib.run_append_own_string (P:=Tryz.prog) w B 25 9 25 5 i0 Tryz.underlying25 Tryz.underlying9 hi (by rw[hz0]) hz1 hz2 v _ _ hO s (by unfold maxLen;omega) (by omega) hB;have e:s.data.toList.length=s.size:=by rw[Array.length_toList];rfl
 exact ⟨v9,W9,q1,by rw[List.length_append,jt,e];exact q2,q3⟩
theorem jOk (w:World):(Go.sizeOf 57).run Tryz.prog w=.ok 2 w:=by kernel_rfl
theorem j4o:FAt Tryz.prog 57 0 0:=by
 intro B o w
 have u:=Tryz.underlying57
 go_simp
instance:FA 57 0 0:=⟨j4o⟩
theorem jCn:FAt Tryz.prog 57 1 1:=by
 intro B o w
 have u:=Tryz.underlying57
 go_simp
instance:FA 57 1 1:=⟨jCn⟩
theorem jN0 (w:World):(Instr.alloc 57 true (.tuple #[])).run Tryz.prog w=.ok (.pointer (some ⟨w.heap.size,0,none⟩)) (w.alloc (.cells #[(.int .i64 0),(.slice none 0 0)] 57)):=by kernel_rfl
theorem j3z:FN Tryz.prog 64:=jr Tryz.func64 (by kernel_rfl) rfl
theorem jNj:FN Tryz.prog 43:=jr Tryz.func43 (by kernel_rfl) rfl
theorem jNb:FN Tryz.prog 23:=jr Tryz.func23 (by kernel_rfl) rfl
theorem jKs:FN Tryz.prog 48:=jr Tryz.func48 (by kernel_rfl) rfl
theorem j5r:FN Tryz.prog 33:=jr Tryz.func33 (by kernel_rfl) rfl
theorem jNa:FN Tryz.prog 21:=jr Tryz.func21 (by kernel_rfl) rfl
theorem j5q:FN Tryz.prog 19:=jr Tryz.func19 (by kernel_rfl) rfl
theorem jNk:FN Tryz.prog 45:=jr Tryz.func45 (by kernel_rfl) rfl
theorem j2r:FN Tryz.prog 44:=jr Tryz.func44 (by kernel_rfl) rfl
theorem j7l:FN Tryz.prog 47:=jr Tryz.func47 (by kernel_rfl) rfl
theorem j1z:FN Tryz.prog 46:=jr Tryz.func46 (by kernel_rfl) rfl
theorem jKp:FN Tryz.prog 20:=jr Tryz.func20 (by kernel_rfl) rfl
theorem jKo:FN Tryz.prog 18:=jr Tryz.func18 (by kernel_rfl) rfl
theorem jNq:FN Tryz.prog 65:=jr Tryz.func65 (by kernel_rfl) rfl
theorem j3y:FN Tryz.prog 35:=jr Tryz.func35 (by kernel_rfl) rfl
theorem jNr:FN Tryz.prog 66:=jr Tryz.func66 (by kernel_rfl) rfl
theorem jO0:FN Tryz.prog 86:=jr Tryz.func86 (by kernel_rfl) rfl
theorem jNf:FN Tryz.prog 34:=jr Tryz.func34 (by kernel_rfl) rfl
theorem jNs:FN Tryz.prog 67:=jr Tryz.func67 (by kernel_rfl) rfl
theorem jNg:FN Tryz.prog 36:=jr Tryz.func36 (by kernel_rfl) rfl
theorem jNe:FN Tryz.prog 32:=jr Tryz.func32 (by kernel_rfl) rfl
theorem jLh (n:Int) (w:World) (h:0≤n) (h2:n≤255):(convert 3 5 (.int .i64 n)).run Tryz.prog w=.ok (.int .u8 (n.toNat:Int)) w:=by
 obtain ⟨m,rfl⟩:∃ m:Nat,n=(m:Int):=⟨n.toNat,by omega⟩
 have u:=Tryz.underlying3;have u2:=Tryz.underlying5;have e:IntKind.u8.wrap ((m:Int))=(m:Int):=jn (by omega) (by omega)
 go_simp
 try exact e
theorem jKi (n:Nat) (w:World) (h2:n≤4294967295):(convert 3 44 (.int .i64 n)).run Tryz.prog w=.ok (.int .u32 n) w:=by
 have u:=Tryz.underlying3;have u2:=Tryz.underlying44;have e:IntKind.u32.wrap ((n:Int))=(n:Int):=jA4 (by omega) (by omega)
 go_simp
 try exact e
theorem zz (w0 w:World) (f:Nat) (v:Int) (k:Nat) (l:List UInt8) (H:Hp w0 w []) (hZ:Fm w0 w f v k l) (pa:Option Addr) (pc:Nat) (m:List UInt8) (hr:Row w pa (B8 m)) (hn:pa=none→pc=0) (hm:m.length≤1000000000) (hk:k≤130000) :
  Calls Tryz.prog 33 #[.pointer (some ⟨f,0,none⟩),.slice pa m.length pc] w λe w'=>∃ u,e=.returned u∧FmP w0 w f v (k+1) (l++m) u w':=by
 obtain ⟨a,c,hB,hO,hf,hl⟩:=hZ;have HB:Hp w0 w [⟨f,57,#[.int .i64 v,.slice a l.length c]⟩]:=⟨H.k,hB,hf,λy hy=>(by cases hy),trivial⟩
 clear H hB;have HB2:=HB;let RR:Ending→World→Prop:=λe w'=>∃ u,e=.returned u∧FmP w0 w f v (k+1) (l++m) u w'
 go_enter Tryz.func33,Tryz.ntmps33
 generalize hA:({tmps:=_,defers:=[]}:Act)=A;have F:Fr A 13 [(1,(.slice pa m.length pc)),(0,(.pointer (some ⟨f,0,none⟩)))]:=by rw[← hA];exact (Fr.cons (i:=1) (v:=(.slice pa m.length pc)) (Fr.cons (i:=0) (v:=(.pointer (some ⟨f,0,none⟩))) (Fr.nil0 rfl rfl) rfl) rfl)
 clear hA;have H:=HB;clear HB HB2;refine jB ?_
 iterate 2 (refine zd ?_;intro A F)
 refine j7 F rfl (j28 rfl (F.e rfl)) ?_;intro A F
 iterate 3 (refine zd ?_;intro A F)
 have hlm:l.length+m.length≤140737000000000:=by omega
 obtain ⟨v9,W9,hrun,hO9,hg⟩:=jDl hO hr hn hlm H.size;have hkS:=jo hg;obtain ⟨a9,c9,hv9⟩:=qC hO9;subst hv9;refine j7 F rfl (ji rfl (j0 (F.e rfl) (j0 (F.e rfl) j9)) (λcs=>by simp only[builtin];exact qM hrun)) ?_;intro A F;replace H:=Hp.grown H hO hkS (fa1 (jS hO (H.b.at_ (j:=0) rfl).1 (show 57≠5 by decide)) fa0);have hK9:Kept (Ft w0 w f) w W9:=(Kept.refl _ w).then hkS (λi hi e=>.inr ⟨(hO.lt i e).1,zh hO e⟩);refine j7 F rfl (j28 rfl (F.e rfl)) ?_;intro A F;refine zd ?_;intro A F;refine zs [] (#[(.int .i64 v),(.slice a9 ((l++m).length) c9)]) ?_;intro W H9 hk;replace hO9:=jM hO9 (H.b.at_ (j:=0) rfl).1 (show 57≠5 by decide) hk;replace hK9:=hK9.then hk (λi hi e=>.inl e);clear H hk;have H:=H9;clear H9;refine wpList_nil ?_;refine (show bodyPost _ Tryz.f33 RR Exit.normal _ _ from zn0 ?_);exact ⟨_,rfl,rfl,⟨a9,c9,(H.b.at_ (j:=0) rfl).1,hO9,hf,by rw[List.length_append];omega⟩,hK9⟩
theorem j02 (w0 w:World) (f:Nat) (v:Int) (k:Nat) (l:List UInt8) (H:Hp w0 w []) (hZ:Fm w0 w f v k l) (n:Nat) (hn:n≤255) (hk:k≤130000) :
  Calls Tryz.prog 19 #[.pointer (some ⟨f,0,none⟩),.int .u8 n] w λe w'=>∃ u,e=.returned u∧FmP w0 w f v (k+1) (l++by1 n) u w':=by
 replace hZ:=hZ.start;have HB:=H;clear H;let RR:Ending→World→Prop:=λe w'=>∃ u,e=.returned u∧FmP w0 w f v (k+1) (l++by1 n) u w'
 go_enter Tryz.func19,Tryz.ntmps19
 generalize hA:({tmps:=_,defers:=[]}:Act)=A;have F:Fr A 8 [(1,(.int .u8 ((n:Int)))),(0,(.pointer (some ⟨f,0,none⟩)))]:=by rw[← hA];exact (Fr.cons (i:=1) (v:=(.int .u8 ((n:Int)))) (Fr.cons (i:=0) (v:=(.pointer (some ⟨f,0,none⟩))) (Fr.nil0 rfl rfl) rfl) rfl)
 clear hA;have H:=HB;clear HB;refine jB ?_
 iterate 2 (refine zd ?_;intro A F)
 refine va (R:=Bys (by1 n)) F H rfl (j6 rfl rfl (j0 jD (j0 (F.e rfl) j9)) jNf) (OwnB.bys ((j59 none 0 [] n _ (by omega) (by omega) (.nil _ _) (λ_=>⟨rfl,rfl⟩) (by simp)).mono λ_ _ h=>Lays.own h)) ?_;clear F H A;intro vv W A hR hk H F;obtain ⟨a9,c9,rfl,hr9,hn9⟩:=hR;replace hZ:=hZ.no hk;clear hk;refine jT (FmP w0 _ f v (k+1) (l++(by1 n))) F rfl (j6 rfl rfl (j0 (F.e rfl) (j0 (F.e rfl) j9)) j5r) (zz w0 _ f v _ _ ⟨H.k,trivial⟩ hZ.m a9 c9 (by1 n) hr9 hn9 (by simp[j3d]) (by omega)) (λ_ _ h=>H.formed hZ h.2 ft0) ?_;clear F H A;intro vv W A hR H F;obtain ⟨rfl,hZ9⟩:=hR;replace hZ:=hZ.step hZ9;clear hZ9;refine wpList_nil ?_;refine (show bodyPost _ Tryz.f19 RR Exit.normal _ _ from zn0 ?_);exact ⟨_,rfl,rfl,hZ.is (by first|rfl|(simp only[List.append_assoc];done)) (by omega)⟩
theorem xL (w0 w:World) (f:Nat) (v:Int) (k:Nat) (l:List UInt8) (H:Hp w0 w []) (hZ:Fm w0 w f v k l) (n:Nat) (hn:n≤65535) (hk:k≤130000) :
  Calls Tryz.prog 46 #[.pointer (some ⟨f,0,none⟩),.int .u16 n] w λe w'=>∃ u,e=.returned u∧FmP w0 w f v (k+1) (l++by2 n) u w':=by
 replace hZ:=hZ.start;have HB:=H;clear H;let RR:Ending→World→Prop:=λe w'=>∃ u,e=.returned u∧FmP w0 w f v (k+1) (l++by2 n) u w'
 go_enter Tryz.func46,Tryz.ntmps46
 generalize hA:({tmps:=_,defers:=[]}:Act)=A;have F:Fr A 8 [(1,(.int .u16 ((n:Int)))),(0,(.pointer (some ⟨f,0,none⟩)))]:=by rw[← hA];exact (Fr.cons (i:=1) (v:=(.int .u16 ((n:Int)))) (Fr.cons (i:=0) (v:=(.pointer (some ⟨f,0,none⟩))) (Fr.nil0 rfl rfl) rfl) rfl)
 clear hA;have H:=HB;clear HB;refine jB ?_
 iterate 2 (refine zd ?_;intro A F)
 refine va (R:=Bys (by2 n)) F H rfl (j6 rfl rfl (j0 jD (j0 (F.e rfl) j9)) jNs) (OwnB.bys ((jDf none 0 [] n _ (by omega) (by omega) (.nil _ _) (λ_=>⟨rfl,rfl⟩) (by simp)).mono λ_ _ h=>Lays.own h)) ?_;clear F H A;intro vv W A hR hk H F;obtain ⟨a9,c9,rfl,hr9,hn9⟩:=hR;replace hZ:=hZ.no hk;clear hk;refine jT (FmP w0 _ f v (k+1) (l++(by2 n))) F rfl (j6 rfl rfl (j0 (F.e rfl) (j0 (F.e rfl) j9)) j5r) (zz w0 _ f v _ _ ⟨H.k,trivial⟩ hZ.m a9 c9 (by2 n) hr9 hn9 (by simp[j3e]) (by omega)) (λ_ _ h=>H.formed hZ h.2 ft0) ?_;clear F H A;intro vv W A hR H F;obtain ⟨rfl,hZ9⟩:=hR;replace hZ:=hZ.step hZ9;clear hZ9;refine wpList_nil ?_;refine (show bodyPost _ Tryz.f46 RR Exit.normal _ _ from zn0 ?_);exact ⟨_,rfl,rfl,hZ.is (by first|rfl|(simp only[List.append_assoc];done)) (by omega)⟩
theorem jAg (w0 w:World) (f:Nat) (v:Int) (k:Nat) (l:List UInt8) (H:Hp w0 w []) (hZ:Fm w0 w f v k l) (n:Nat) (hn:n≤268435455) (hk:k≤130000) :
  Calls Tryz.prog 21 #[.pointer (some ⟨f,0,none⟩),.int .i64 n] w λe w'=>∃ u,e=.returned u∧FmP w0 w f v (k+1) (l++vD n) u w':=by
 replace hZ:=hZ.start;have HB:=H;clear H;let RR:Ending→World→Prop:=λe w'=>∃ u,e=.returned u∧FmP w0 w f v (k+1) (l++vD n) u w'
 go_enter Tryz.func21,Tryz.ntmps21
 generalize hA:({tmps:=_,defers:=[]}:Act)=A;have F:Fr A 9 [(1,(.int .i64 ((n:Int)))),(0,(.pointer (some ⟨f,0,none⟩)))]:=by rw[← hA];exact (Fr.cons (i:=1) (v:=(.int .i64 ((n:Int)))) (Fr.cons (i:=0) (v:=(.pointer (some ⟨f,0,none⟩))) (Fr.nil0 rfl rfl) rfl) rfl)
 clear hA;have H:=HB;clear HB;refine jB ?_
 iterate 2 (refine zd ?_;intro A F)
 refine j7 (v:=(.int .u32 ((n:Int)))) F rfl (vZ rfl (F.e rfl) (jKi n _ (by omega))) ?_;intro A F;refine va (R:=Bys (vD n)) F H rfl (j6 rfl rfl (j0 jD (j0 (F.e rfl) j9)) jNg) (OwnB.bys ((jHs n (by omega) _).mono λ_ _ h=>Lays.own h)) ?_;clear F H A;intro vv W A hR hk H F;obtain ⟨a9,c9,rfl,hr9,hn9⟩:=hR;replace hZ:=hZ.no hk;clear hk;refine jT (FmP w0 _ f v (k+1) (l++(vD n))) F rfl (j6 rfl rfl (j0 (F.e rfl) (j0 (F.e rfl) j9)) j5r) (zz w0 _ f v _ _ ⟨H.k,trivial⟩ hZ.m a9 c9 (vD n) hr9 hn9 (by have:=xo n;omega) (by omega)) (λ_ _ h=>H.formed hZ h.2 ft0) ?_;clear F H A;intro vv W A hR H F;obtain ⟨rfl,hZ9⟩:=hR;replace hZ:=hZ.step hZ9;clear hZ9;refine wpList_nil ?_;refine (show bodyPost _ Tryz.f21 RR Exit.normal _ _ from zn0 ?_);exact ⟨_,rfl,rfl,hZ.is (by first|rfl|(simp only[List.append_assoc];done)) (by omega)⟩
theorem zD (w0 w:World) (f:Nat) (v:Int) (k:Nat) (l:List UInt8) (H:Hp w0 w []) (hZ:Fm w0 w f v k l) (s:ByteArray) (hn:s.size≤65535) (hk:k≤130000) :
  Calls Tryz.prog 64 #[.pointer (some ⟨f,0,none⟩),.string s] w λe w'=>∃ u,e=.returned u∧FmP w0 w f v (k+1) (l++jR s) u w':=by
 replace hZ:=hZ.start;have HB:=H;clear H;let RR:Ending→World→Prop:=λe w'=>∃ u,e=.returned u∧FmP w0 w f v (k+1) (l++jR s) u w'
 go_enter Tryz.func64,Tryz.ntmps64
 generalize hA:({tmps:=_,defers:=[]}:Act)=A;have F:Fr A 8 [(1,(.string s)),(0,(.pointer (some ⟨f,0,none⟩)))]:=by rw[← hA];exact (Fr.cons (i:=1) (v:=(.string s)) (Fr.cons (i:=0) (v:=(.pointer (some ⟨f,0,none⟩))) (Fr.nil0 rfl rfl) rfl) rfl)
 clear hA;have H:=HB;clear HB;refine jB ?_
 iterate 2 (refine zd ?_;intro A F)
 refine va (R:=Bys (jR s)) F H rfl (j6 rfl rfl (j0 jD (j0 (F.e rfl) j9)) jO0) (OwnB.bys ((jCi none 0 [] s _ hn (.nil _ _) (λ_=>⟨rfl,rfl⟩) (by simp)).mono λ_ _ h=>Lays.own h)) ?_;clear F H A;intro vv W A hR hk H F;obtain ⟨a9,c9,rfl,hr9,hn9⟩:=hR;replace hZ:=hZ.no hk;clear hk;refine jT (FmP w0 _ f v (k+1) (l++(jR s))) F rfl (j6 rfl rfl (j0 (F.e rfl) (j0 (F.e rfl) j9)) j5r) (zz w0 _ f v _ _ ⟨H.k,trivial⟩ hZ.m a9 c9 (jR s) hr9 hn9 (by rw[xt];omega) (by omega)) (λ_ _ h=>H.formed hZ h.2 ft0) ?_;clear F H A;intro vv W A hR H F;obtain ⟨rfl,hZ9⟩:=hR;replace hZ:=hZ.step hZ9;clear hZ9;refine wpList_nil ?_;refine (show bodyPost _ Tryz.f64 RR Exit.normal _ _ from zn0 ?_);exact ⟨_,rfl,rfl,hZ.is (by first|rfl|(simp only[List.append_assoc];done)) (by omega)⟩
theorem jJm (L:List Pr) (h:∀ p∈L,p.wf'):(j4g [] L).length≤268435470:=by
 unfold j4g
 split
 ·rename_i n hn
  have h1:=xQ L 0 n h hn (by omega);have h2:=xo n;simp[zl];omega
 ·simp
theorem jMg (v:Int) (L:List Pr) (h:v=4∨v=5) (h5:decide (v=5)=false):qY v L=[]:=by
 have:=of_decide_eq_false h5
 unfold qY;rw[if_pos (by omega)]
theorem jMh (v:Int) (L:List Pr) (h5:decide (v=5)=true):qY v L=j4g [] L:=by
 have:=of_decide_eq_true h5
 unfold qY;rw[if_neg (by omega)]
theorem vC (w0 w:World) (f:Nat) (v:Int) (k:Nat) (l:List UInt8) (H:Hp w0 w []) (hZ:Fm w0 w f v k l) (L:List Pr) (sa:Option Addr) (sc:Nat) (hp:Row w0 sa (PC L)) (hL:L.length≤100000) (hw:∀ p∈L,p.wf') (hv:v=4∨v=5) (hT:Tabs w0) (hk:k≤130000) :
  Calls Tryz.prog 44 #[.pointer (some ⟨f,0,none⟩),.slice sa L.length sc] w λe w'=>∃ u,e=.returned u∧FmP w0 w f v (k+1) (l++qY v L) u w':=by
 replace hZ:=hZ.start;have HB:=H;clear H;let RR:Ending→World→Prop:=λe w'=>∃ u,e=.returned u∧FmP w0 w f v (k+1) (l++qY v L) u w'
 go_enter Tryz.func44,Tryz.ntmps44
 generalize hA:({tmps:=_,defers:=[]}:Act)=A;have F:Fr A 13 [(1,(.slice sa L.length sc)),(0,(.pointer (some ⟨f,0,none⟩)))]:=by rw[← hA];exact (Fr.cons (i:=1) (v:=(.slice sa L.length sc)) (Fr.cons (i:=0) (v:=(.pointer (some ⟨f,0,none⟩))) (Fr.nil0 rfl rfl) rfl) rfl)
 clear hA;have H:=HB;clear HB;refine sg λK1 hK1=>?_;refine zd ?_;intro A F;refine j7 F rfl (j28 rfl (F.e rfl)) ?_;intro A F;refine j8s F rfl rfl (F.e rfl) (j4o _ _ _) (j8c _) hZ.cell ?_;intro A F;refine zb (jL) ?_;intro A F;refine nn (hK1 _ _) ?_;refine zc (λhb2=>?_) (λhb2=>?_)
 ·skip
  refine jB ?_
  iterate 2 (refine zd ?_;intro A F)
  refine va (R:=Bys (j4g [] L)) F H rfl (j6 rfl rfl (j0 jD (j0 (F.e rfl) j9)) jNr) (OwnB.bys (jJn none 0 [] sa sc L _ (.nil _ _) (λ_=>⟨rfl,rfl⟩) (by simp) (hp.keptNo H.k) hL hw (hT.kept H.k))) ?_;clear F H A;intro vv W A hR hk H F;obtain ⟨a9,c9,rfl,hr9,hn9⟩:=hR;replace hZ:=hZ.no hk;clear hk;refine jT (FmP w0 _ f v (k+1) (l++(j4g [] L))) F rfl (j6 rfl rfl (j0 (F.e rfl) (j0 (F.e rfl) j9)) j5r) (zz w0 _ f v _ _ ⟨H.k,trivial⟩ hZ.m a9 c9 (j4g [] L) hr9 hn9 (by have:=jJm L hw;omega) (by omega)) (λ_ _ h=>H.formed hZ h.2 ft0) ?_;clear F H A;intro vv W A hR H F;obtain ⟨rfl,hZ9⟩:=hR;replace hZ:=hZ.step hZ9;clear hZ9;refine wpList_nil ?_;refine (show bodyPost _ Tryz.f44 RR Exit.normal _ _ from zn0 ?_);exact ⟨_,rfl,rfl,hZ.is (by rw[jMh v L hb2]) (by omega)⟩
 refine wp_skip ?_;refine (show bodyPost _ Tryz.f44 RR Exit.normal _ _ from zn0 ?_);exact ⟨_,rfl,rfl,hZ.is (by rw[jMg v L hv hb2,List.append_nil]) (by omega)⟩
theorem v7 (b:Bool) (n:Nat):vG b n≤n:=by unfold vG;split<;>omega
theorem zO (b:Bool) (n:Nat) (w:World) :
  Calls Tryz.prog 35 #[.bool b,.int .u8 n] w λe w'=>e=.returned (.int .u8 (vG b n:Int))∧Kept No w w':=by
 let RR:Ending→World→Prop:=λe w'=>e=.returned (.int .u8 (vG b n:Int))∧Kept No w w'
 go_enter Tryz.func35,Tryz.ntmps35
 generalize hA:({tmps:=_,defers:=[]}:Act)=A;have F:Fr A 7 [(1,(.int .u8 ((n:Int)))),(0,(.bool b))]:=by rw[← hA];exact (Fr.cons (i:=1) (v:=(.int .u8 ((n:Int)))) (Fr.cons (i:=0) (v:=(.bool b)) (Fr.nil0 rfl rfl) rfl) rfl)
 clear hA;have H:=Hp.start w;refine sg λK1 hK1=>?_;refine zd ?_;intro A F;refine nn (hK1 _ _) ?_;refine wp_seq_k λK2 hK2=>?_;refine sg λK3 hK3=>?_;refine zd ?_;intro A F;refine nn (hK3 _ _) ?_;refine zc (λhb4=>?_) (λhb4=>?_)
 ·skip
  refine sg λK5 hK5=>?_
  iterate 2 (refine zd ?_;intro A F)
  refine nn (hK5 _ _) ?_;refine jH ?_;refine (show bodyPost _ Tryz.f35 RR Exit.ret _ _ from zr ?_);exact ri (by simp[vG,hb4])
 refine wp_skip (hK2 _ _ ?_);refine sg λK6 hK6=>?_;refine zd ?_;intro A F;refine nn (hK6 _ _) ?_;refine jH ?_;refine (show bodyPost _ Tryz.f35 RR Exit.ret _ _ from zr ?_);exact ri (by simp[vG,hb4])
theorem j7i (v:Int) (p:Pk) (s:Sl) (w:World) (hR:Ri v p) :
  Calls Tryz.prog 20 #[p.val s] w λe w'=>e=.returned (.int .u8 (qN p:Int))∧Kept No w w':=by
 have h1:=v7 p.retain 1;have h2:=v7 p.dup 8;have hq:=hR.qos;let RR:Ending→World→Prop:=λe w'=>e=.returned (.int .u8 (qN p:Int))∧Kept No w w'
 go_enter Tryz.func20,Tryz.ntmps20
 generalize hA:({tmps:=_,defers:=[]}:Act)=A;have F:Fr A 22 [(0,(Pk.val p s))]:=by rw[← hA];exact (Fr.cons (i:=0) (v:=(Pk.val p s)) (Fr.nil0 rfl rfl) rfl)
 clear hA;have H:=Hp.start w;refine sg λK1 hK1=>?_;refine jj (c:=(Pk.cells p s)) (t:=36) F H rfl (qW rfl (F.e rfl) (qX _ _)) ?_;clear F A;intro b2 W A hk hN H9 F;clear H;have H:=H9;clear H9;clear hk hN;refine zd ?_;intro A F;refine nn (hK1 _ _) ?_;refine wp_seq_k λK3 hK3=>?_;refine sg λK4 hK4=>?_
 iterate 2 (refine zd ?_;intro A F)
 refine nn (hK4 _ _) ?_;refine wp_block ?_;refine sg λK5 hK5=>?_;refine zb (jL) ?_;intro A F;refine zd ?_;intro A F;refine nn (hK5 _ _) ?_;refine zc (λhb6=>?_) (λhb6=>?_)
 ·skip
  refine wp_seq_k λK7 hK7=>?_;refine wp_region_held_drew (S:=λwx=>Hp _ wx _) (by kernel_rfl) H.drew (λH9=>?_);clear H;have H:=H9;clear H9;generalize World.drew _=W at *;refine td 0 ?_;intro A F;refine td 1 ?_;intro A F;refine td 3 ?_;intro A F;refine td 4 ?_;intro A F;refine jG (i:=5) F rfl rfl (by kernel_rfl) (λ_ _ _ h=>h) (H) (λwz H=>(jF rfl jD (F.e rfl) (j3o (jn (by omega) (by omega))))) ?_;intro A F;refine td 7 ?_;intro A F;refine td 8 ?_;intro A F;refine jO (i:=2) (by kernel_rfl) (jZ (i:=2) F rfl rfl (j6 rfl rfl (j0 (F.e rfl) (j0 jD j9)) j3y) (zO p.retain 1 _) (λ_ hk=>(H.kept hk)) ?_);clear F A;intro W A hk _ F;replace H:=H.kept hk;clear hk;refine jG (i:=6) F rfl rfl (by kernel_rfl) (λ_ _ _ h=>h) (H) (λwz H=>(jF rfl (F.e rfl) (F.e rfl) (jd (jn (by omega) (by omega))))) ?_;intro A F;refine jO (i:=9) (by kernel_rfl) (jZ (i:=9) F rfl rfl (j6 rfl rfl (j0 (F.e rfl) (j0 jD j9)) j3y) (zO p.dup 8 _) (λ_ hk=>(H.kept hk)) ?_);clear F A;intro W A hk _ F;replace H:=H.kept hk;clear hk;refine jG (i:=10) F rfl rfl (by kernel_rfl) (λ_ _ _ h=>h) (H) (λwz H=>(jF rfl (F.e rfl) (F.e rfl) (jd (jn (by omega) (by omega))))) ?_;intro A F;refine td 11 ?_;intro A F;refine wpAnyH_done (by kernel_rfl) ?_ _;refine hK7 _ _ ?_;refine jH ?_;refine (show bodyPost _ Tryz.f20 RR Exit.ret _ _ from zr ?_);exact ri (by have:=hb6;simp only[dE9,decide_eq_false_iff_not,oE9,Bool.or_eq_false_iff]at *;unfold qN;(repeat' split)<;>first|rfl|(push_cast;omega)|omega|(exfalso;omega))
 refine wp_seq_k λK10 hK10=>?_;refine sg λK11 hK11=>?_;refine zb (jL) ?_;intro A F;refine zd ?_;intro A F;refine nn (hK11 _ _) ?_;refine zc (λhb12=>?_) (λhb12=>?_)
 ·skip
  refine wp_skip (hK10 _ _ ?_);refine wp_cond_true ((F.e rfl).trans (congrArg Value.bool hb12)) ?_;refine sg λK13 hK13=>?_;refine zd ?_;intro A F;refine nn (hK13 _ _) ?_;refine jH ?_;refine (show bodyPost _ Tryz.f20 RR Exit.ret _ _ from zr ?_);exact ri (by have:=hb6;have:=hb12;simp only[dE9,decide_eq_false_iff_not,oE9,Bool.or_eq_false_iff]at *;unfold qN;(repeat' split)<;>first|rfl|(push_cast;omega)|omega|(exfalso;omega))
 refine sg λK14 hK14=>?_;refine zb (jL) ?_;intro A F;refine zd ?_;intro A F;refine nn (hK14 _ _) ?_;refine zc (λhb15=>?_) (λhb15=>?_)
 ·skip
  refine wp_skip (hK10 _ _ ?_);refine wp_cond_true ((F.e rfl).trans (congrArg Value.bool hb15)) ?_;refine sg λK16 hK16=>?_;refine zd ?_;intro A F;refine nn (hK16 _ _) ?_;refine jH ?_;refine (show bodyPost _ Tryz.f20 RR Exit.ret _ _ from zr ?_);exact ri (by have:=hb6;have:=hb12;have:=hb15;simp only[dE9,decide_eq_false_iff_not,oE9,Bool.or_eq_false_iff]at *;unfold qN;(repeat' split)<;>first|rfl|(push_cast;omega)|omega|(exfalso;omega))
 refine jB ?_;refine zb (jL) ?_;intro A F;refine zd ?_;intro A F;refine nn (hK10 _ _) ?_;refine zc (λhb17=>?_) (λhb17=>?_)
 ·skip
  refine sg λK18 hK18=>?_;refine zd ?_;intro A F;refine nn (hK18 _ _) ?_;refine jH ?_;refine (show bodyPost _ Tryz.f20 RR Exit.ret _ _ from zr ?_);exact ri (by have:=hb6;have:=hb12;have:=hb15;have:=hb17;simp only[dE9,decide_eq_false_iff_not,oE9,Bool.or_eq_false_iff]at *;unfold qN;(repeat' split)<;>first|rfl|(push_cast;omega)|omega|(exfalso;omega))
 refine wp_skip (hK3 _ _ ?_);refine sg λK19 hK19=>?_;refine zd ?_;intro A F;refine nn (hK19 _ _) ?_;refine jH ?_;refine (show bodyPost _ Tryz.f20 RR Exit.ret _ _ from zr ?_);exact ri (by have:=hb6;have:=hb12;have:=hb15;have:=hb17;simp only[dE9,decide_eq_false_iff_not,oE9,Bool.or_eq_false_iff]at *;unfold qN;(repeat' split)<;>first|rfl|(push_cast;omega)|omega|(exfalso;omega))
theorem j8h (v:Int) (p:Pk) (s:Sl) (w:World) (hR:Ri v p) :
  Calls Tryz.prog 65 #[p.val s] w λe w'=>e=.returned (.int .u8 (qT p:Int))∧Kept No w w':=by
 have h1:=v7 p.clean 2;have h2:=v7 p.hasWill 4;have hq:=hR.wq;have h3:=v7 p.willRetain 32;have h4:=v7 p.hasPass 64;have h5:=v7 p.hasUser 128;let RR:Ending→World→Prop:=λe w'=>e=.returned (.int .u8 (qT p:Int))∧Kept No w w'
 go_enter Tryz.func65,Tryz.ntmps65
 generalize hA:({tmps:=_,defers:=[]}:Act)=A;have F:Fr A 26 [(0,(Pk.val p s))]:=by rw[← hA];exact (Fr.cons (i:=0) (v:=(Pk.val p s)) (Fr.nil0 rfl rfl) rfl)
 clear hA;have H:=Hp.start w;refine sg λK1 hK1=>?_;refine jj (c:=(Pk.cells p s)) (t:=36) F H rfl (qW rfl (F.e rfl) (qX _ _)) ?_;clear F A;intro b2 W A hk hN H9 F;clear H;have H:=H9;clear H9;clear hk hN;refine zd ?_;intro A F;refine nn (hK1 _ _) ?_;refine wp_seq_k λK3 hK3=>?_;refine wp_region_held_drew (S:=λwx=>Hp _ wx _) (by kernel_rfl) H.drew (λH9=>?_);clear H;have H:=H9;clear H9;generalize World.drew _=W at *;refine td 0 ?_;intro A F;refine td 1 ?_;intro A F;refine td 3 ?_;intro A F;refine td 4 ?_;intro A F;refine td 7 ?_;intro A F;refine td 8 ?_;intro A F;refine jG (i:=9) F rfl rfl (by kernel_rfl) (λ_ _ _ h=>h) (H) (λwz H=>(jF rfl jD (F.e rfl) (j3o (jn (by omega) (by omega))))) ?_;intro A F;refine td 11 ?_;intro A F;refine td 12 ?_;intro A F;refine td 15 ?_;intro A F;refine td 16 ?_;intro A F;refine td 19 ?_;intro A F;refine td 20 ?_;intro A F;refine jO (i:=2) (by kernel_rfl) (jZ (i:=2) F rfl rfl (j6 rfl rfl (j0 (F.e rfl) (j0 jD j9)) j3y) (zO p.clean 2 _) (λ_ hk=>(H.kept hk)) ?_);clear F A;intro W A hk _ F;replace H:=H.kept hk;clear hk;refine jO (i:=5) (by kernel_rfl) (jZ (i:=5) F rfl rfl (j6 rfl rfl (j0 (F.e rfl) (j0 jD j9)) j3y) (zO p.hasWill 4 _) (λ_ hk=>(H.kept hk)) ?_);clear F A;intro W A hk _ F;replace H:=H.kept hk;clear hk;refine jG (i:=6) F rfl rfl (by kernel_rfl) (λ_ _ _ h=>h) (H) (λwz H=>(jF rfl (F.e rfl) (F.e rfl) (jd (jn (by omega) (by omega))))) ?_;intro A F;refine jG (i:=10) F rfl rfl (by kernel_rfl) (λ_ _ _ h=>h) (H) (λwz H=>(jF rfl (F.e rfl) (F.e rfl) (jd (jn (by omega) (by omega))))) ?_;intro A F;refine jO (i:=13) (by kernel_rfl) (jZ (i:=13) F rfl rfl (j6 rfl rfl (j0 (F.e rfl) (j0 jD j9)) j3y) (zO p.willRetain 32 _) (λ_ hk=>(H.kept hk)) ?_);clear F A;intro W A hk _ F;replace H:=H.kept hk;clear hk;refine jG (i:=14) F rfl rfl (by kernel_rfl) (λ_ _ _ h=>h) (H) (λwz H=>(jF rfl (F.e rfl) (F.e rfl) (jd (jn (by omega) (by omega))))) ?_;intro A F;refine jO (i:=17) (by kernel_rfl) (jZ (i:=17) F rfl rfl (j6 rfl rfl (j0 (F.e rfl) (j0 jD j9)) j3y) (zO p.hasPass 64 _) (λ_ hk=>(H.kept hk)) ?_);clear F A;intro W A hk _ F;replace H:=H.kept hk;clear hk;refine jG (i:=18) F rfl rfl (by kernel_rfl) (λ_ _ _ h=>h) (H) (λwz H=>(jF rfl (F.e rfl) (F.e rfl) (jd (jn (by omega) (by omega))))) ?_;intro A F;refine jO (i:=21) (by kernel_rfl) (jZ (i:=21) F rfl rfl (j6 rfl rfl (j0 (F.e rfl) (j0 jD j9)) j3y) (zO p.hasUser 128 _) (λ_ hk=>(H.kept hk)) ?_);clear F A;intro W A hk _ F;replace H:=H.kept hk;clear hk;refine jG (i:=22) F rfl rfl (by kernel_rfl) (λ_ _ _ h=>h) (H) (λwz H=>(jF rfl (F.e rfl) (F.e rfl) (jd (jn (by omega) (by omega))))) ?_;intro A F;refine td 23 ?_;intro A F;refine wpAnyH_done (by kernel_rfl) ?_ _;refine hK3 _ _ ?_;refine jH ?_;refine (show bodyPost _ Tryz.f65 RR Exit.ret _ _ from zr ?_);exact ri (by unfold qT;push_cast;rfl)
def xU (v:Int) (p:Pk):Nat:=if qj v p=true then 1+(vD (qD v p)).length+qD v p else 0
theorem j80 (v:Int) (p:Pk) (s:Sl) (w:World) (hp:p.At s w) (hF:Fit p) (hT:Tabs w) :
  Calls Tryz.prog 18 #[.int .i64 v,p.val s] w λe w'=>e=.returned (.int .i64 (xU v p:Int))∧Kept No w w':=by
 let RR:Ending→World→Prop:=λe w'=>e=.returned (.int .i64 (xU v p:Int))∧Kept No w w'
 go_enter Tryz.func18,Tryz.ntmps18
 generalize hA:({tmps:=_,defers:=[]}:Act)=A;have F:Fr A 19 [(1,(Pk.val p s)),(0,(.int .i64 v))]:=by rw[← hA];exact (Fr.cons (i:=1) (v:=(Pk.val p s)) (Fr.cons (i:=0) (v:=(.int .i64 v)) (Fr.nil0 rfl rfl) rfl) rfl)
 clear hA;have H:=Hp.start w;refine sg λK1 hK1=>?_;refine jj (c:=(Pk.cells p s)) (t:=36) F H rfl (qW rfl (F.e rfl) (qX _ _)) ?_;clear F A;intro b2 W A hk hN H9 F;clear H;have H:=H9;clear H9;clear hk hN;refine zd ?_;intro A F;refine nn (hK1 _ _) ?_;refine wp_seq_k λK3 hK3=>?_;refine sg λK4 hK4=>?_;refine zd ?_;intro A F;refine j7 F rfl (jA rfl (F.e rfl) (jE ((Pk.cells p s)) rfl (jY _) (jQ _) (λi=>H.cs 0 rfl i))) ?_;intro A F;refine jf F H rfl (j6 rfl rfl (j0 (F.e rfl) (j0 (F.e rfl) j9)) jNd) (jAi v p s _ (hp.kept H.k) hF (hT.kept H.k)) ?_;clear F H A;intro W A hk H F;clear hk;refine zd ?_;intro A F;refine nn (hK4 _ _) ?_;refine zc (λhb6=>?_) (λhb6=>?_)
 ·skip
  refine sg λK7 hK7=>?_;refine zd ?_;intro A F;refine nn (hK7 _ _) ?_;refine jH ?_;refine (show bodyPost _ Tryz.f18 RR Exit.ret _ _ from zr ?_);exact ri (by unfold xU;rw[if_neg (by have:=hb6;intro h9;rw[h9]at this;cases this)];rfl)
 refine wp_skip (hK3 _ _ ?_);refine sg λK8 hK8=>?_;refine zd ?_;intro A F;refine j7 F rfl (jA rfl (F.e rfl) (jE ((Pk.cells p s)) rfl (jY _) (jQ _) (λi=>H.cs 0 rfl i))) ?_;intro A F;have hRi:=zL (gnz hb6);have hrs:=hRi.rest;have hvl:=xo (qD v p);refine jf F H rfl (j6 rfl rfl (j0 (F.e rfl) (j0 (F.e rfl) j9)) jCr) (j2f v p s _ (hp.kept H.k) hF (hT.kept H.k) hRi.filt) ?_;clear F H A;intro W A hk H F;clear hk;refine zd ?_;intro A F;refine nn (hK8 _ _) ?_;refine sg λK10 hK10=>?_;refine zd ?_;intro A F;refine j7 (v:=(.int .u32 ((qD v p:Int)))) F rfl (vZ rfl (F.e rfl) (jKi (qD v p) _ (by omega))) ?_;intro A F;refine jf F H rfl (j6 rfl rfl (j0 (F.e rfl) j9) jNe) ((j3t (qD v p) (by omega) _).mono λe9 ww h9=>⟨h9.1,h9.2▸Kept.refl No _⟩) ?_;clear F H A;intro W A hk H F;clear hk;refine j7 F rfl (jF rfl jD (F.e rfl) (jd (jK (by omega) (by omega)))) ?_;intro A F;refine zd ?_;intro A F;refine j7 F rfl (jF rfl (F.e rfl) (F.e rfl) (jd (jK (by omega) (by omega)))) ?_;intro A F;refine zd ?_;intro A F;refine nn (hK10 _ _) ?_;refine jH ?_;refine (show bodyPost _ Tryz.f18 RR Exit.ret _ _ from zr ?_);exact ri (by unfold xU;rw[if_pos (gnz hb6)];push_cast;rfl)
theorem z6 (w0 w:World) (f:Nat) (v:Int) (k:Nat) (l:List UInt8) (H:Hp w0 w []) (hZ:Fm w0 w f v k l) (p:Pk) (s:Sl) (hp:p.At s w0) (hF:Fit p) (hR:Ri v p) (hT:Tabs w0) (hk:k≤120000) :
  Calls Tryz.prog 47 #[.pointer (some ⟨f,0,none⟩),p.val s] w λe w'=>∃ u,e=.returned u∧FmP w0 w f v (k+100) (l++vd v p) u w':=by
 replace hZ:=hZ.start;have HB:=H;clear H;let RR:Ending→World→Prop:=λe w'=>∃ u,e=.returned u∧FmP w0 w f v (k+100) (l++vd v p) u w'
 go_enter Tryz.func47,Tryz.ntmps47
 generalize hA:({tmps:=_,defers:=[]}:Act)=A;have F:Fr A 32 [(1,(Pk.val p s)),(0,(.pointer (some ⟨f,0,none⟩)))]:=by rw[← hA];exact (Fr.cons (i:=1) (v:=(Pk.val p s)) (Fr.cons (i:=0) (v:=(.pointer (some ⟨f,0,none⟩))) (Fr.nil0 rfl rfl) rfl) rfl)
 clear hA;have H:=HB;clear HB;refine sg λK1 hK1=>?_;refine jj (c:=(Pk.cells p s)) (t:=36) F H rfl (qW rfl (F.e rfl) (qX _ _)) ?_;clear F A;intro b2 W A hk hN H9 F;clear H;have H:=H9;clear H9;have hN_hZ_b2:=Nat.le_trans hZ.k.size hN;replace hZ:=hZ.no hk;clear hk hN;refine nn (hK1 _ _) ?_;refine wp_seq_k λK3 hK3=>?_;refine sg λK4 hK4=>?_;refine zd ?_;intro A F;refine j7 F rfl (j28 rfl (F.e rfl)) ?_;intro A F;refine j8s F rfl rfl (F.e rfl) (j4o _ _ _) (j8c _) hZ.cell ?_;intro A F;refine zb (jL) ?_;intro A F;refine zd ?_;intro A F
 iterate 2 (refine zg ?_;intro A F)
 refine zgb (jx (i:=p.code) (j:=0)) ?_;intro A F
 iterate 3 (refine zg ?_;intro A F)
 refine qQ F rfl (j2v F rfl rfl rfl) (λhG=>(qH rfl (j0 (F.o rfl hG) j9) (qK Tryz.underlying33))) ?_;intro A F;refine zgb (jx (i:=p.props.length) (j:=0)) ?_;intro A F;refine zg ?_;intro A F;refine j7 F rfl (qL rfl (F.e rfl) (λhx=>(F.o rfl (gnt hx))) rfl) ?_;intro A F;refine nn (hK4 _ _) ?_;refine zc (λhb5=>?_) (λhb5=>?_)
 ·skip
  replace F:=((F.nil.cons (F.g 3 _ rfl)).cons (F.g 0 _ rfl))
  refine jH ?_;refine (show bodyPost _ Tryz.f47 RR Exit.ret _ _ from zr0 ?_);exact ⟨_,rfl,rfl,hZ.is (by have:=hb5;simp only[oE9,aE9,Bool.or_eq_false_iff,Bool.and_eq_false_iff,Bool.not_eq_true',Bool.not_eq_false',dE9,decide_eq_false_iff_not]at *;unfold vd;(repeat' split)<;>first|rfl|(simp only[List.append_nil];done)|(simp only[List.append_assoc];done)|(exfalso;omega)) (by omega)⟩
 replace F:=((F.nil.cons (F.g 3 _ rfl)).cons (F.g 0 _ rfl))
 refine wp_skip (hK3 _ _ ?_);refine sg λK6 hK6=>?_
 iterate 3 (refine zd ?_;intro A F)
 refine jT (FmP w0 _ f v (k+1) (l++by1 p.code)) F rfl (j6 rfl rfl (j0 (F.e rfl) (j0 (F.e rfl) j9)) j5q) (j02 w0 _ f v _ _ ⟨H.k,trivial⟩ hZ.m p.code (by have:=hF.id;have:=hF.code;have:=hF.keep;have:=v7 p.present 1;omega) (by omega)) (λ_ _ h=>H.formed hZ h.2 (fa1 ⟨(show 36≠5 by decide),(show 36≠57 by decide)⟩ ft0)) ?_;clear F H A;intro vv W A hR H F;obtain ⟨rfl,hZ9⟩:=hR;replace hZ:=hZ.step hZ9;clear hZ9;refine nn (hK6 _ _) ?_;refine sg λK8 hK8=>?_
 iterate 2 (refine zd ?_;intro A F)
 refine j7 F rfl (qH rfl (j0 (F.e rfl) j9) (qK Tryz.underlying33)) ?_;intro A F;refine zb (vV (i:=p.props.length) (j:=0)) ?_;intro A F;refine nn (hK8 _ _) ?_;refine zc (λhb9=>?_) (λhb9=>?_)
 ·skip
  refine jB ?_
  iterate 3 (refine zd ?_;intro A F)
  refine jT (FmP w0 _ f v ((k+1)+1) ((l++by1 p.code)++qY v p.props)) F rfl (j6 rfl rfl (j0 (F.e rfl) (j0 (F.e rfl) j9)) j2r) (vC w0 _ f v _ _ ⟨H.k,trivial⟩ hZ.m p.props s.pa s.pc hp.hp hF.few.hp hF.wf.p hR.hv hT (by omega)) (λ_ _ h=>H.formed hZ h.2 (fa1 ⟨(show 36≠5 by decide),(show 36≠57 by decide)⟩ ft0)) ?_;clear F H A;intro vv W A hR H F;obtain ⟨rfl,hZ9⟩:=hR;replace hZ:=hZ.step hZ9;clear hZ9;refine wpList_nil ?_;refine (show bodyPost _ Tryz.f47 RR Exit.normal _ _ from zn0 ?_);exact ⟨_,rfl,rfl,hZ.is (by have:=hb5; have:=hb9;simp only[oE9,aE9,Bool.or_eq_false_iff,Bool.and_eq_false_iff,Bool.not_eq_true',Bool.not_eq_false',dE9,decide_eq_false_iff_not]at *;unfold vd;(repeat' split)<;>first|rfl|(simp only[List.append_nil];done)|(simp only[List.append_assoc];done)|(exfalso;omega)) (by omega)⟩
 refine wp_skip ?_;refine (show bodyPost _ Tryz.f47 RR Exit.normal _ _ from zn0 ?_);exact ⟨_,rfl,rfl,hZ.is (by have:=hb5; have:=hb9;simp only[oE9,aE9,Bool.or_eq_false_iff,Bool.and_eq_false_iff,Bool.not_eq_true',Bool.not_eq_false',dE9,decide_eq_false_iff_not]at *;unfold vd;(repeat' split)<;>first|rfl|(simp only[List.append_nil];done)|(simp only[List.append_assoc];done)|(exfalso;omega)) (by omega)⟩
theorem j90 (w0 w:World) (f:Nat) (v:Int) (k:Nat) (l:List UInt8) (H:Hp w0 w []) (hZ:Fm w0 w f v k l) (p:Pk) (s:Sl) (hp:p.At s w0) (hF:Fit p) (hR:Ri v p) (hT:Tabs w0) (hld:p.load.size≤268435455) (hk:k≤120000) :
  Calls Tryz.prog 45 #[.pointer (some ⟨f,0,none⟩),p.val s] w λe w'=>∃ u,e=.returned u∧FmP w0 w f v (k+100) (l++j23 v p) u w':=by
 replace hZ:=hZ.start;have HB:=H;clear H;let RR:Ending→World→Prop:=λe w'=>∃ u,e=.returned u∧FmP w0 w f v (k+100) (l++j23 v p) u w'
 go_enter Tryz.func45,Tryz.ntmps45
 generalize hA:({tmps:=_,defers:=[]}:Act)=A;have F:Fr A 29 [(1,(Pk.val p s)),(0,(.pointer (some ⟨f,0,none⟩)))]:=by rw[← hA];exact (Fr.cons (i:=1) (v:=(Pk.val p s)) (Fr.cons (i:=0) (v:=(.pointer (some ⟨f,0,none⟩))) (Fr.nil0 rfl rfl) rfl) rfl)
 clear hA;have H:=HB;clear HB;refine sg λK1 hK1=>?_;refine jj (c:=(Pk.cells p s)) (t:=36) F H rfl (qW rfl (F.e rfl) (qX _ _)) ?_;clear F A;intro b2 W A hk hN H9 F;clear H;have H:=H9;clear H9;have hN_hZ_b2:=Nat.le_trans hZ.k.size hN;replace hZ:=hZ.no hk;clear hk hN;refine nn (hK1 _ _) ?_;refine sg λK3 hK3=>?_
 iterate 3 (refine zd ?_;intro A F)
 refine jT (FmP w0 _ f v (k+1) (l++jR p.topic)) F rfl (j6 rfl rfl (j0 (F.e rfl) (j0 (F.e rfl) j9)) j3z) (zD w0 _ f v _ _ ⟨H.k,trivial⟩ hZ.m p.topic (by exact hR.topic) (by omega)) (λ_ _ h=>H.formed hZ h.2 (fa1 ⟨(show 36≠5 by decide),(show 36≠57 by decide)⟩ ft0)) ?_;clear F H A;intro vv W A hR H F;obtain ⟨rfl,hZ9⟩:=hR;replace hZ:=hZ.step hZ9;clear hZ9;refine nn (hK3 _ _) ?_;refine v8 (λA W=>Fr A 29 [(0,(.pointer (some ⟨f,0,none⟩))),(3,(.pointer (some ⟨b2,0,none⟩)))]∧Hp w0 W [⟨b2,36,(Pk.cells p s)⟩]∧(FmK w0 w f v ((k+1)+10) ((l++jR p.topic)++(if p.qos=0 then [] else by2 p.id)) W)) (λA W hM=>?_) (λK5 hK5=>?_)
 rotate_left
 ·skip
  refine sg λK6 hK6=>?_
  iterate 2 (refine zd ?_;intro A F)
  refine zb (vV (i:=p.qos) (j:=0)) ?_;intro A F;refine nn (hK6 _ _) ?_;refine zc (λhb7=>?_) (λhb7=>?_)
  ·skip
   refine jB ?_
   iterate 3 (refine zd ?_;intro A F)
   refine jT (FmP w0 _ f v ((k+1)+1) ((l++jR p.topic)++by2 p.id)) F rfl (j6 rfl rfl (j0 (F.e rfl) (j0 (F.e rfl) j9)) j1z) (xL w0 _ f v _ _ ⟨H.k,trivial⟩ hZ.m p.id (by have:=hF.id;have:=hF.code;have:=hF.keep;have:=v7 p.present 1;omega) (by omega)) (λ_ _ h=>H.formed hZ h.2 (fa1 ⟨(show 36≠5 by decide),(show 36≠57 by decide)⟩ ft0)) ?_;clear F H A;intro vv W A hR H F;obtain ⟨rfl,hZ9⟩:=hR;replace hZ:=hZ.step hZ9;clear hZ9;refine wpList_nil ?_;exact hK5 _ _ ⟨((F.nil.cons (F.g 3 _ rfl)).cons (F.g 0 _ rfl)),H,(hZ.is (by have:=hb7;simp only[Bool.not_eq_true',Bool.not_eq_false',dE9,decide_eq_false_iff_not]at this;simp[this]) (by omega))⟩
  refine wp_skip ?_;exact hK5 _ _ ⟨((F.nil.cons (F.g 3 _ rfl)).cons (F.g 0 _ rfl)),H,(hZ.is (by have:=hb7;simp only[Bool.not_eq_true',Bool.not_eq_false',dE9,decide_eq_false_iff_not]at this;simp[this]) (by omega))⟩
 clear F H;obtain ⟨F,H,hZ⟩:=hM;refine sg λK9 hK9=>?_
 iterate 3 (refine zd ?_;intro A F)
 refine jT (FmP w0 _ f v (((k+1)+10)+1) ((l++jR p.topic)++(if p.qos=0 then [] else by2 p.id)++qY v p.props)) F rfl (j6 rfl rfl (j0 (F.e rfl) (j0 (F.e rfl) j9)) j2r) (vC w0 _ f v _ _ ⟨H.k,trivial⟩ hZ.m p.props s.pa s.pc hp.hp hF.few.hp hF.wf.p hR.hv hT (by omega)) (λ_ _ h=>H.formed hZ h.2 (fa1 ⟨(show 36≠5 by decide),(show 36≠57 by decide)⟩ ft0)) ?_;clear F H A;intro vv W A hR H F;obtain ⟨rfl,hZ9⟩:=hR;replace hZ:=hZ.step hZ9;clear hZ9;refine nn (hK9 _ _) ?_;refine wp_region_held_drew (S:=λwx=>Hp _ wx _) (by kernel_rfl) H.drew (λH9=>?_);clear H;have H:=H9;clear H9;replace hZ:=hZ.no (Kept.refl No _).drew;generalize World.drew _=W at *;refine td 0 ?_;intro A F;refine td 1 ?_;intro A F;refine jG (i:=2) F rfl rfl (by kernel_rfl) (λ_ _ _ h=>h) (H) (λwz H=>(j28 rfl (F.e rfl))) ?_;intro A F;refine td 3 ?_;intro A F;refine td 5 ?_;intro A F;refine td 6 ?_;intro A F;obtain ⟨⟨a,c,hB,hO,hf,hl⟩,hZk⟩:=hZ;have hlm:(((l++jR p.topic)++(if p.qos=0 then [] else by2 p.id)++qY v p.props)).length+p.load.size≤140737000000000:=by omega
 refine jO (i:=4) (by kernel_rfl) (qO (v:=(.slice a ((((l++jR p.topic)++(if p.qos=0 then [] else by2 p.id)++qY v p.props)).length) c)) (i:=4) F rfl rfl (jA rfl (F.e rfl) (jk (j16 _) (hB.cell 1))) (H) ?_);intro A F;obtain ⟨v9,W9,hrun,hO9,hg⟩:=jHy hO p.load hlm H.size;have hkS:=jo hg;obtain ⟨a9,c9,hv9⟩:=qC hO9;subst hv9;have hty:∀ y∈[(⟨b2,36,(Pk.cells p s)⟩:Bk)],¬ Sv _ y.b:=(fa1 (jS hO (H.b.at_ (j:=0) rfl).1 (show 36≠5 by decide)) fa0)
 replace H:=Hp.grown H hO hkS hty;replace hB:=hB.kept hkS (jS hO hB (show 57≠5 by decide));replace hZk:=hZk.then hkS (λi hi e=>by have q:=zh hO e;have q2:=(hO.lt i e).1;by_cases hX:Ft w0 w f i;exact hX;exact .inr ⟨q2,by obtain ⟨cs,q⟩:=q;exact ⟨cs,by unfold Blk at q ⊢;rw[← hZk.block i hi hX];exact q⟩⟩);refine jO (i:=7) (by kernel_rfl) (qO (i:=7) F rfl rfl (ji rfl (j0 (F.e rfl) (j0 (F.e rfl) j9)) (λcs=>by simp only[builtin];exact qM hrun)) (H) ?_);intro A F;refine jG (i:=8) F rfl rfl (by kernel_rfl) (λ_ _ _ h=>h) (H) (λwz H=>(j28 rfl (F.e rfl))) ?_;intro A F;refine td 9 ?_;intro A F;obtain ⟨W8,hr8,hB8,hk8⟩:=jBg (P:=Tryz.prog) (T:=25) (i:=1) (v:=.slice a9 (((l++jR p.topic)++(if p.qos=0 then [] else by2 p.id)++qY v p.props)++p.load.data.toList).length c9) (c':=#[.int .i64 v,.slice a9 (((l++jR p.topic)++(if p.qos=0 then [] else by2 p.id)++qY v p.props)++p.load.data.toList).length c9]) _ hB (jGo _) rfl (by simp) rfl;have hO8:=jM hO9 hB (show 57≠5 by decide) hk8;replace hZk:=hZk.then hk8 (λi hi e=>.inl e);have H8:Hp w0 W8 [⟨b2,36,(Pk.cells p s)⟩]:=⟨H.k.then hk8 (λi hi e=>by have e:i=f:=e;omega),H.b.formed hk8 (fa1 (λhY e=>absurd (j1p hY (show Blk _ _ 57 _ from by have e:_=f:=e;rw[e];exact hB)) (show 36≠57 by decide)) ft0)⟩
 refine jO (i:=10) (by kernel_rfl) (zF (i:=10) rfl (jJ rfl (F.e rfl) (F.e rfl) hr8) (H8) ?_);clear H;have H:=H8;clear H8;refine wpAnyH_done (by kernel_rfl) ?_ _;refine (show bodyPost _ Tryz.f45 RR Exit.normal _ _ from zn0 ?_);exact ⟨_,rfl,rfl,FmK.is (l:=((l++jR p.topic)++(if p.qos=0 then [] else by2 p.id)++qY v p.props)++p.load.data.toList) (k:=k+50) ⟨⟨a9,c9,hB8,hO8,hf,by have e:p.load.data.toList.length=p.load.size:=(by rw[Array.length_toList];rfl);rw[List.length_append,e];omega⟩,hZk⟩ (by unfold j23;simp only[List.append_assoc]) (by omega)⟩
theorem j7e (k:Int):∀ L M:List Fi,vS k (L++M)=vS k L++vS k M
 | [],M=>rfl
 | f :: l,M=>by rw[List.cons_append,vS,vS,j7e k l M];simp only[List.append_assoc]
theorem j5m {k:Int} {L:List Fi} {j:Nat} (h:j<L.length):vS k (L.take (j+1))=vS k (L.take j)++(jR L[j].text++(if k=8 then by1 L[j].opt else [])):=by
 rw[List.take_succ_eq_append_getElem h,j7e,vS,vS,List.append_nil]
theorem j2o (w0 w:World) (f:Nat) (v:Int) (k:Nat) (l:List UInt8) (H:Hp w0 w []) (hZ:Fm w0 w f v k l) (p:Pk) (s:Sl) (hp:p.At s w0) (hF:Fit p) (hR:Ri v p) (hT:Tabs w0) (hk:k≤90000) :
  Calls Tryz.prog 48 #[.pointer (some ⟨f,0,none⟩),p.val s] w λe w'=>∃ u,e=.returned u∧FmP w0 w f v (k+31000) (l++vS p.kind p.filters) u w':=by
 replace hZ:=hZ.start;have HB:=H;clear H;let RR:Ending→World→Prop:=λe w'=>∃ u,e=.returned u∧FmP w0 w f v (k+31000) (l++vS p.kind p.filters) u w'
 go_enter Tryz.func48,Tryz.ntmps48
 generalize hA:({tmps:=_,defers:=[]}:Act)=A;have F:Fr A 25 [(1,(Pk.val p s)),(0,(.pointer (some ⟨f,0,none⟩)))]:=by rw[← hA];exact (Fr.cons (i:=1) (v:=(Pk.val p s)) (Fr.cons (i:=0) (v:=(.pointer (some ⟨f,0,none⟩))) (Fr.nil0 rfl rfl) rfl) rfl)
 clear hA;have H:=HB;clear HB;refine sg λK1 hK1=>?_;refine jj (c:=(Pk.cells p s)) (t:=36) F H rfl (qW rfl (F.e rfl) (qX _ _)) ?_;clear F A;intro b2 W A hk hN H9 F;clear H;have H:=H9;clear H9;have hN_hZ_b2:=Nat.le_trans hZ.k.size hN;replace hZ:=hZ.no hk;clear hk hN;refine nn (hK1 _ _) ?_;refine sg λK3 hK3=>?_
 iterate 2 (refine zd ?_;intro A F)
 refine j7 F rfl (qH rfl (j0 (F.e rfl) j9) (qK Tryz.underlying34)) ?_;intro A F;refine zd ?_;intro A F;refine nn (hK3 _ _) ?_;refine wp_block ?_;refine xf (λ(j:Nat) A W=>Fr A 25 [(0,(.pointer (some ⟨f,0,none⟩))),(3,(.pointer (some ⟨b2,0,none⟩))),(7,(.slice s.fa p.filters.length s.fc)),(8,(.int .i64 ((p.filters.length:Int)))),(9,(.int .i64 ((j:Int))))]∧Hp w0 W [⟨b2,36,(Pk.cells p s)⟩]∧(j≤p.filters.length)∧(FmK w0 w f v (k+30*j) (l++vS p.kind (p.filters.take j)) W)) (λj=>p.filters.length - j) 0 ⟨(((((F.nil.cons (vK (F.g 9 _ rfl) (by rfl))).cons (F.g 8 _ rfl)).cons (F.g 7 _ rfl)).cons (F.g 3 _ rfl)).cons (F.g 0 _ rfl)),H,by omega,hZ.is (by simp[vS]) (by omega)⟩ (λj A W hI J4 hJ4=>?_);clear F H;obtain ⟨F,H,hj,hZ⟩:=hI;have hnf:=hR.nf;refine sg λK5 hK5=>?_;refine zb (vB (i:=j) (j:=p.filters.length)) ?_;intro A F;refine nn (hK5 _ _) ?_;refine wp_seq_k λK6 hK6=>?_;refine zc (λhb7=>?_) (λhb7=>?_)
 ·skip
  refine wp_skip (hK6 _ _ ?_);refine wp_seq_k λK8 hK8=>?_;refine wp_block ?_;refine sg λK9 hK9=>?_;have hlt:j<p.filters.length:=of_decide_eq_true hb7;obtain ⟨b9,off9,ha9,hbl9,q0,q1⟩:=(hp.kept H.k).hf.filt hlt;have hfm:=List.getElem_mem hlt;have hf1:=hR.filt _ hfm;have hf2:=hF.opt _ hfm;obtain ⟨x9,hx9⟩:∃ x9,x9=p.filters[j]:=⟨_,rfl⟩;rw[← hx9]at q0 q1 hf1 hf2;refine j7 F rfl (qJ rfl ((F.e rfl).trans (show _=Value.slice (some ⟨b9,off9,none⟩) p.filters.length s.fc from by first|(rw[← ha9];done)|(rw[← ha9];rfl))) (F.e rfl) (vc Tryz.underlying34 (j20 _) hlt)) ?_;intro A F;refine j7 (v:=(.agg #[(.string x9.text),(.int .u8 ((x9.opt:Int)))])) F rfl (jA rfl (F.e rfl) (j2s (jCv _) (j20 _) q0 q1)) ?_;intro A F;refine jj (c:=#[(.string ⟨#[]⟩),(.int .u8 0)]) (t:=63) F H rfl (jq rfl (jF9 _)) ?_;clear F A;intro b10 W A hk hN H9 F;clear H;have H:=H9;clear H9;have hN_hZ_b10:=Nat.le_trans hZ.k.size hN;replace hZ:=hZ.no hk;clear hk hN;obtain ⟨W9,hr,hB,hk⟩:=jC (P:=Tryz.prog) (S:=63) (c:=#[(.string x9.text),(.int .u8 ((x9.opt:Int)))]) _ (H.b.at_ (j:=0) rfl).1 (j20 _) rfl (by simp[Value.oneCell']);replace hZ:=hZ.st (H.b.at_ (j:=0) rfl).1 (show 63≠_ by decide) (show 63≠_ by decide) hN_hZ_b10 hk;refine q9 (jJ rfl (F.e rfl) (F.e rfl) hr) ?_;clear hr;replace H:Hp _ _ [_,_]:=Hp.turn [] H hk hB;clear hk hB;refine nn (hK9 _ _) ?_;refine sg λK11 hK11=>?_
  iterate 3 (refine zd ?_;intro A F)
  refine jT (FmP w0 _ f v ((k+30*j)+1) ((l++vS p.kind (p.filters.take j))++jR x9.text)) F rfl (j6 rfl rfl (j0 (F.e rfl) (j0 (F.e rfl) j9)) j3z) (zD w0 _ f v _ _ ⟨H.k,trivial⟩ hZ.m x9.text (by exact hf1) (by omega)) (λ_ _ h=>H.formed hZ h.2 (fa1 ⟨(show 63≠5 by decide),(show 63≠57 by decide)⟩ (fa1 ⟨(show 36≠5 by decide),(show 36≠57 by decide)⟩ ft0))) ?_;clear F H A;intro vv W A hR H F;obtain ⟨rfl,hZ9⟩:=hR;replace hZ:=hZ.step hZ9;clear hZ9;refine nn (hK11 _ _) ?_;refine sg λK13 hK13=>?_
  iterate 2 (refine zd ?_;intro A F)
  refine zb (jL) ?_;intro A F;refine nn (hK13 _ _) ?_;refine zc (λhb14=>?_) (λhb14=>?_)
  ·skip
   refine jB ?_
   iterate 3 (refine zd ?_;intro A F)
   refine jT (FmP w0 _ f v (((k+30*j)+1)+1) (((l++vS p.kind (p.filters.take j))++jR x9.text)++by1 x9.opt)) F rfl (j6 rfl rfl (j0 (F.e rfl) (j0 (F.e rfl) j9)) j5q) (j02 w0 _ f v _ _ ⟨H.k,trivial⟩ hZ.m x9.opt (by omega) (by omega)) (λ_ _ h=>H.formed hZ h.2 (fa1 ⟨(show 63≠5 by decide),(show 63≠57 by decide)⟩ (fa1 ⟨(show 36≠5 by decide),(show 36≠57 by decide)⟩ ft0))) ?_;clear F H A;intro vv W A hR H F;obtain ⟨rfl,hZ9⟩:=hR;replace hZ:=hZ.step hZ9;clear hZ9;refine nn (hK8 _ _) ?_;refine jB ?_;refine j7 F rfl (jF rfl (F.e rfl) jD (jd (jK (by omega) (by omega)))) ?_;intro A F;refine zd ?_;intro A F;refine wpList_nil ?_;exact hJ4 ((j+1)) _ _ (by omega) ⟨(((((F.nil.cons (vK (F.g 9 _ rfl) (by simp))).cons (F.g 8 _ rfl)).cons (F.g 7 _ rfl)).cons (F.g 3 _ rfl)).cons (F.g 0 _ rfl)),H.tl,by omega,hZ.is (by have h8:=hb14;simp only[dE9,decide_eq_false_iff_not]at h8;rw[j5m hlt,← hx9];first|(rw[if_pos h8];simp only[List.append_assoc];done)|(rw[if_neg h8];simp only[List.append_assoc,List.append_nil];done)) (by omega)⟩
  refine wp_skip (hK8 _ _ ?_);refine jB ?_;refine j7 F rfl (jF rfl (F.e rfl) jD (jd (jK (by omega) (by omega)))) ?_;intro A F;refine zd ?_;intro A F;refine wpList_nil ?_;exact hJ4 ((j+1)) _ _ (by omega) ⟨(((((F.nil.cons (vK (F.g 9 _ rfl) (by simp))).cons (F.g 8 _ rfl)).cons (F.g 7 _ rfl)).cons (F.g 3 _ rfl)).cons (F.g 0 _ rfl)),H.tl,by omega,hZ.is (by have h8:=hb14;simp only[dE9,decide_eq_false_iff_not]at h8;rw[j5m hlt,← hx9];first|(rw[if_pos h8];simp only[List.append_assoc];done)|(rw[if_neg h8];simp only[List.append_assoc,List.append_nil];done)) (by omega)⟩
 refine wp_exit ?_;refine (show bodyPost _ Tryz.f48 RR Exit.normal _ _ from zn0 ?_);exact ⟨_,rfl,rfl,hZ.is (by rw[List.take_of_length_le (by have h8:=of_decide_eq_false hb7;omega)]) (by omega)⟩
theorem j8j (w0 w:World) (f:Nat) (v:Int) (k:Nat) (l:List UInt8) (H:Hp w0 w []) (hZ:Fm w0 w f v k l) (p:Pk) (s:Sl) (hp:p.At s w0) (hF:Fit p) (hR:Ri v p) (hT:Tabs w0) (hk:k≤120000) :
  Calls Tryz.prog 43 #[.pointer (some ⟨f,0,none⟩),p.val s] w λe w'=>∃ u,e=.returned u∧FmP w0 w f v (k+100) (l++j0a v p) u w':=by
 replace hZ:=hZ.start;have hv:=hR.hv;have HB:=H;clear H;let RR:Ending→World→Prop:=λe w'=>∃ u,e=.returned u∧FmP w0 w f v (k+100) (l++j0a v p) u w'
 go_enter Tryz.func43,Tryz.ntmps43
 generalize hA:({tmps:=_,defers:=[]}:Act)=A;have F:Fr A 55 [(1,(Pk.val p s)),(0,(.pointer (some ⟨f,0,none⟩)))]:=by rw[← hA];exact (Fr.cons (i:=1) (v:=(Pk.val p s)) (Fr.cons (i:=0) (v:=(.pointer (some ⟨f,0,none⟩))) (Fr.nil0 rfl rfl) rfl) rfl)
 clear hA;have H:=HB;clear HB;refine sg λK1 hK1=>?_;refine jj (c:=(Pk.cells p s)) (t:=36) F H rfl (qW rfl (F.e rfl) (qX _ _)) ?_;clear F A;intro b2 W A hk hN H9 F;clear H;have H:=H9;clear H9;have hN_hZ_b2:=Nat.le_trans hZ.k.size hN;replace hZ:=hZ.no hk;clear hk hN;refine nn (hK1 _ _) ?_;refine sg λK3 hK3=>?_;refine zd ?_;intro A F;refine jT (FmP w0 _ f v (k+1) (l++jR (⟨#[77,81,84,84]⟩))) F rfl (j6 rfl rfl (j0 (F.e rfl) (j0 jD j9)) j3z) (zD w0 _ f v _ _ ⟨H.k,trivial⟩ hZ.m (⟨#[77,81,84,84]⟩) (by first|(unfold j74;decide)|decide) (by omega)) (λ_ _ h=>H.formed hZ h.2 (fa1 ⟨(show 36≠5 by decide),(show 36≠57 by decide)⟩ ft0)) ?_;clear F H A;intro vv W A hR H F;obtain ⟨rfl,hZ9⟩:=hR;replace hZ:=hZ.step hZ9;clear hZ9;refine nn (hK3 _ _) ?_;refine sg λK5 hK5=>?_
 iterate 2 (refine zd ?_;intro A F)
 refine j7 F rfl (j28 rfl (F.e rfl)) ?_;intro A F;refine j8s F rfl rfl (F.e rfl) (j4o _ _ _) (j8c _) hZ.cell ?_;intro A F;refine j7 (v:=(.int .u8 ((v.toNat:Int)))) F rfl (vZ rfl (F.e rfl) (jLh v _ (by omega) (by omega))) ?_;intro A F;refine jT (FmP w0 _ f v ((k+1)+1) ((l++jR (⟨#[77,81,84,84]⟩))++by1 v.toNat)) F rfl (j6 rfl rfl (j0 (F.e rfl) (j0 (F.e rfl) j9)) j5q) (j02 w0 _ f v _ _ ⟨H.k,trivial⟩ hZ.m v.toNat (by have:=hF.keep;have:=j3f hR;omega) (by omega)) (λ_ _ h=>H.formed hZ h.2 (fa1 ⟨(show 36≠5 by decide),(show 36≠57 by decide)⟩ ft0)) ?_;clear F H A;intro vv W A hR H F;obtain ⟨rfl,hZ9⟩:=hR;replace hZ:=hZ.step hZ9;clear hZ9;refine nn (hK5 _ _) ?_;refine sg λK7 hK7=>?_;refine zd ?_;intro A F;refine j7 F rfl (jA rfl (F.e rfl) (jE ((Pk.cells p s)) rfl (jY _) (jQ _) (λi=>H.cs 0 rfl i))) ?_;intro A F;refine jf F H rfl (j6 rfl rfl (j0 (F.e rfl) j9) jNq) (j8h v p s _ hR) ?_;clear F H A;intro W A hk H F;replace hZ:=hZ.no hk;clear hk;refine jT (FmP w0 _ f v (((k+1)+1)+1) (((l++jR (⟨#[77,81,84,84]⟩))++by1 v.toNat)++by1 (qT p))) F rfl (j6 rfl rfl (j0 (F.e rfl) (j0 (F.e rfl) j9)) j5q) (j02 w0 _ f v _ _ ⟨H.k,trivial⟩ hZ.m (qT p) (by have:=hF.keep;have:=j3f hR;omega) (by omega)) (λ_ _ h=>H.formed hZ h.2 (fa1 ⟨(show 36≠5 by decide),(show 36≠57 by decide)⟩ ft0)) ?_;clear F H A;intro vv W A hR H F;obtain ⟨rfl,hZ9⟩:=hR;replace hZ:=hZ.step hZ9;clear hZ9;refine nn (hK7 _ _) ?_;refine sg λK10 hK10=>?_
 iterate 3 (refine zd ?_;intro A F)
 refine jT (FmP w0 _ f v ((((k+1)+1)+1)+1) ((((l++jR (⟨#[77,81,84,84]⟩))++by1 v.toNat)++by1 (qT p))++by2 p.keep)) F rfl (j6 rfl rfl (j0 (F.e rfl) (j0 (F.e rfl) j9)) j1z) (xL w0 _ f v _ _ ⟨H.k,trivial⟩ hZ.m p.keep (by have:=hF.keep;have:=j3f hR;omega) (by omega)) (λ_ _ h=>H.formed hZ h.2 (fa1 ⟨(show 36≠5 by decide),(show 36≠57 by decide)⟩ ft0)) ?_;clear F H A;intro vv W A hR H F;obtain ⟨rfl,hZ9⟩:=hR;replace hZ:=hZ.step hZ9;clear hZ9;refine nn (hK10 _ _) ?_;refine sg λK12 hK12=>?_
 iterate 3 (refine zd ?_;intro A F)
 refine jT (FmP w0 _ f v (((((k+1)+1)+1)+1)+1) (((((l++jR (⟨#[77,81,84,84]⟩))++by1 v.toNat)++by1 (qT p))++by2 p.keep)++qY v p.props)) F rfl (j6 rfl rfl (j0 (F.e rfl) (j0 (F.e rfl) j9)) j2r) (vC w0 _ f v _ _ ⟨H.k,trivial⟩ hZ.m p.props s.pa s.pc hp.hp hF.few.hp hF.wf.p hR.hv hT (by omega)) (λ_ _ h=>H.formed hZ h.2 (fa1 ⟨(show 36≠5 by decide),(show 36≠57 by decide)⟩ ft0)) ?_;clear F H A;intro vv W A hR H F;obtain ⟨rfl,hZ9⟩:=hR;replace hZ:=hZ.step hZ9;clear hZ9;refine nn (hK12 _ _) ?_;refine sg λK14 hK14=>?_
 iterate 3 (refine zd ?_;intro A F)
 refine jT (FmP w0 _ f v ((((((k+1)+1)+1)+1)+1)+1) ((((((l++jR (⟨#[77,81,84,84]⟩))++by1 v.toNat)++by1 (qT p))++by2 p.keep)++qY v p.props)++jR p.client)) F rfl (j6 rfl rfl (j0 (F.e rfl) (j0 (F.e rfl) j9)) j3z) (zD w0 _ f v _ _ ⟨H.k,trivial⟩ hZ.m p.client (by exact hR.client) (by omega)) (λ_ _ h=>H.formed hZ h.2 (fa1 ⟨(show 36≠5 by decide),(show 36≠57 by decide)⟩ ft0)) ?_;clear F H A;intro vv W A hR H F;obtain ⟨rfl,hZ9⟩:=hR;replace hZ:=hZ.step hZ9;clear hZ9;refine nn (hK14 _ _) ?_;refine v8 (λA W=>Fr A 55 [(0,(.pointer (some ⟨f,0,none⟩))),(3,(.pointer (some ⟨b2,0,none⟩)))]∧Hp w0 W [⟨b2,36,(Pk.cells p s)⟩]∧(FmK w0 w f v (((((((k+1)+1)+1)+1)+1)+1)+10) (((((((l++jR (⟨#[77,81,84,84]⟩))++by1 v.toNat)++by1 (qT p))++by2 p.keep)++qY v p.props)++jR p.client)++(if p.hasWill=true then qY v p.willProps++jR p.willTopic++jR p.willLoad else [])) W)) (λA W hM=>?_) (λK16 hK16=>?_)
 rotate_left
 ·skip
  refine sg λK17 hK17=>?_
  iterate 2 (refine zd ?_;intro A F)
  refine nn (hK17 _ _) ?_;refine zc (λhb18=>?_) (λhb18=>?_)
  ·skip
   replace F:=((F.nil.cons (F.g 3 _ rfl)).cons (F.g 0 _ rfl))
   refine sg λK19 hK19=>?_
   iterate 3 (refine zd ?_;intro A F)
   refine jT (FmP w0 _ f v (((((((k+1)+1)+1)+1)+1)+1)+1) (((((((l++jR (⟨#[77,81,84,84]⟩))++by1 v.toNat)++by1 (qT p))++by2 p.keep)++qY v p.props)++jR p.client)++qY v p.willProps)) F rfl (j6 rfl rfl (j0 (F.e rfl) (j0 (F.e rfl) j9)) j2r) (vC w0 _ f v _ _ ⟨H.k,trivial⟩ hZ.m p.willProps s.wa s.wc hp.hw hF.few.hw hF.wf.w hR.hv hT (by omega)) (λ_ _ h=>H.formed hZ h.2 (fa1 ⟨(show 36≠5 by decide),(show 36≠57 by decide)⟩ ft0)) ?_;clear F H A;intro vv W A hR H F;obtain ⟨rfl,hZ9⟩:=hR;replace hZ:=hZ.step hZ9;clear hZ9;refine nn (hK19 _ _) ?_;refine sg λK21 hK21=>?_
   iterate 3 (refine zd ?_;intro A F)
   refine jT (FmP w0 _ f v ((((((((k+1)+1)+1)+1)+1)+1)+1)+1) ((((((((l++jR (⟨#[77,81,84,84]⟩))++by1 v.toNat)++by1 (qT p))++by2 p.keep)++qY v p.props)++jR p.client)++qY v p.willProps)++jR p.willTopic)) F rfl (j6 rfl rfl (j0 (F.e rfl) (j0 (F.e rfl) j9)) j3z) (zD w0 _ f v _ _ ⟨H.k,trivial⟩ hZ.m p.willTopic (by exact hR.willTopic) (by omega)) (λ_ _ h=>H.formed hZ h.2 (fa1 ⟨(show 36≠5 by decide),(show 36≠57 by decide)⟩ ft0)) ?_;clear F H A;intro vv W A hR H F;obtain ⟨rfl,hZ9⟩:=hR;replace hZ:=hZ.step hZ9;clear hZ9;refine nn (hK21 _ _) ?_;refine jB ?_
   iterate 3 (refine zd ?_;intro A F)
   refine jT (FmP w0 _ f v (((((((((k+1)+1)+1)+1)+1)+1)+1)+1)+1) (((((((((l++jR (⟨#[77,81,84,84]⟩))++by1 v.toNat)++by1 (qT p))++by2 p.keep)++qY v p.props)++jR p.client)++qY v p.willProps)++jR p.willTopic)++jR p.willLoad)) F rfl (j6 rfl rfl (j0 (F.e rfl) (j0 (F.e rfl) j9)) j3z) (zD w0 _ f v _ _ ⟨H.k,trivial⟩ hZ.m p.willLoad (by exact hR.willLoad) (by omega)) (λ_ _ h=>H.formed hZ h.2 (fa1 ⟨(show 36≠5 by decide),(show 36≠57 by decide)⟩ ft0)) ?_;clear F H A;intro vv W A hR H F;obtain ⟨rfl,hZ9⟩:=hR;replace hZ:=hZ.step hZ9;clear hZ9;refine wpList_nil ?_;exact hK16 _ _ ⟨((F.nil.cons (F.g 3 _ rfl)).cons (F.g 0 _ rfl)),H,(hZ.is (by simp[hb18]) (by omega))⟩
  replace F:=((F.nil.cons (F.g 3 _ rfl)).cons (F.g 0 _ rfl))
  refine wp_skip ?_;exact hK16 _ _ ⟨((F.nil.cons (F.g 3 _ rfl)).cons (F.g 0 _ rfl)),H,(hZ.is (by simp[hb18]) (by omega))⟩
 clear F H;obtain ⟨F,H,hZ⟩:=hM;refine v8 (λA W=>Fr A 55 [(0,(.pointer (some ⟨f,0,none⟩))),(3,(.pointer (some ⟨b2,0,none⟩)))]∧Hp w0 W [⟨b2,36,(Pk.cells p s)⟩]∧(FmK w0 w f v ((((((((k+1)+1)+1)+1)+1)+1)+10)+10) (((((((l++jR (⟨#[77,81,84,84]⟩))++by1 v.toNat)++by1 (qT p))++by2 p.keep)++qY v p.props)++jR p.client)++(if p.hasWill=true then qY v p.willProps++jR p.willTopic++jR p.willLoad else [])++(if p.hasUser=true then jR p.user else [])) W)) (λA W hM=>?_) (λK24 hK24=>?_)
 rotate_left
 ·skip
  refine sg λK25 hK25=>?_
  iterate 2 (refine zd ?_;intro A F)
  refine nn (hK25 _ _) ?_;refine zc (λhb26=>?_) (λhb26=>?_)
  ·skip
   refine jB ?_
   iterate 3 (refine zd ?_;intro A F)
   refine jT (FmP w0 _ f v ((((((((k+1)+1)+1)+1)+1)+1)+10)+1) (((((((l++jR (⟨#[77,81,84,84]⟩))++by1 v.toNat)++by1 (qT p))++by2 p.keep)++qY v p.props)++jR p.client)++(if p.hasWill=true then qY v p.willProps++jR p.willTopic++jR p.willLoad else [])++jR p.user)) F rfl (j6 rfl rfl (j0 (F.e rfl) (j0 (F.e rfl) j9)) j3z) (zD w0 _ f v _ _ ⟨H.k,trivial⟩ hZ.m p.user (by exact hR.user) (by omega)) (λ_ _ h=>H.formed hZ h.2 (fa1 ⟨(show 36≠5 by decide),(show 36≠57 by decide)⟩ ft0)) ?_;clear F H A;intro vv W A hR H F;obtain ⟨rfl,hZ9⟩:=hR;replace hZ:=hZ.step hZ9;clear hZ9;refine wpList_nil ?_;exact hK24 _ _ ⟨((F.nil.cons (F.g 3 _ rfl)).cons (F.g 0 _ rfl)),H,(hZ.is (by simp[hb26]) (by omega))⟩
  refine wp_skip ?_;exact hK24 _ _ ⟨((F.nil.cons (F.g 3 _ rfl)).cons (F.g 0 _ rfl)),H,(hZ.is (by simp[hb26]) (by omega))⟩
 clear F H;obtain ⟨F,H,hZ⟩:=hM;refine sg λK28 hK28=>?_
 iterate 2 (refine zd ?_;intro A F)
 refine nn (hK28 _ _) ?_;refine zc (λhb29=>?_) (λhb29=>?_)
 ·skip
  refine jB ?_
  iterate 3 (refine zd ?_;intro A F)
  refine jT (FmP w0 _ f v (((((((((k+1)+1)+1)+1)+1)+1)+10)+10)+1) (((((((l++jR (⟨#[77,81,84,84]⟩))++by1 v.toNat)++by1 (qT p))++by2 p.keep)++qY v p.props)++jR p.client)++(if p.hasWill=true then qY v p.willProps++jR p.willTopic++jR p.willLoad else [])++(if p.hasUser=true then jR p.user else [])++jR p.pass)) F rfl (j6 rfl rfl (j0 (F.e rfl) (j0 (F.e rfl) j9)) j3z) (zD w0 _ f v _ _ ⟨H.k,trivial⟩ hZ.m p.pass (by exact hR.pass) (by omega)) (λ_ _ h=>H.formed hZ h.2 (fa1 ⟨(show 36≠5 by decide),(show 36≠57 by decide)⟩ ft0)) ?_;clear F H A;intro vv W A hR H F;obtain ⟨rfl,hZ9⟩:=hR;replace hZ:=hZ.step hZ9;clear hZ9;refine wpList_nil ?_;refine (show bodyPost _ Tryz.f43 RR Exit.normal _ _ from zn0 ?_);exact ⟨_,rfl,rfl,hZ.is (by unfold j0a;simp only[hb29,if_true,if_false,Bool.false_eq_true,List.append_assoc,List.append_nil,j74]) (by omega)⟩
 refine wp_skip ?_;refine (show bodyPost _ Tryz.f43 RR Exit.normal _ _ from zn0 ?_);exact ⟨_,rfl,rfl,hZ.is (by unfold j0a;simp only[hb29,if_true,if_false,Bool.false_eq_true,List.append_assoc,List.append_nil,j74]) (by omega)⟩
theorem zP {v:Int} {p:Pk} (h:p.kind=1):xE v p=j0a v p:=by unfold xE;rw[if_pos h]
theorem zQ {v:Int} {p:Pk} (h:p.kind=2):xE v p=by1 (vG p.present 1)++by1 p.code++qY v p.props:=by unfold xE;rw[if_neg (by omega),if_pos h]
theorem zR {v:Int} {p:Pk} (h:p.kind=3):xE v p=j23 v p:=by unfold xE;rw[if_neg (by omega),if_neg (by omega),if_pos h]
theorem zo {v:Int} {p:Pk} (h:p.kind=4∨p.kind=5∨p.kind=6∨p.kind=7):xE v p=by2 p.id++vd v p:=by unfold xE;rw[if_neg (by omega),if_neg (by omega),if_neg (by omega),if_pos h]
theorem zp {v:Int} {p:Pk} (h:p.kind=8∨p.kind=10):xE v p=by2 p.id++qY v p.props++vS p.kind p.filters:=by unfold xE;rw[if_neg (by omega),if_neg (by omega),if_neg (by omega),if_neg (by omega),if_pos h]
theorem zq {v:Int} {p:Pk} (h:p.kind=9∨p.kind=11):xE v p=by2 p.id++qY v p.props++p.codes:=by unfold xE;rw[if_neg (by omega),if_neg (by omega),if_neg (by omega),if_neg (by omega),if_neg (by omega),if_pos h]
theorem xY {v:Int} {p:Pk} (h:p.kind=14∨p.kind=15):xE v p=vd v p:=by unfold xE;rw[if_neg (by omega),if_neg (by omega),if_neg (by omega),if_neg (by omega),if_neg (by omega),if_neg (by omega),if_pos h]
theorem zn {v:Int} {p:Pk} (h1:p.kind≠1) (h2:p.kind≠2) (h3:p.kind≠3) (h4:¬ (p.kind=4∨p.kind=5∨p.kind=6∨p.kind=7)) (h8:¬ (p.kind=8∨p.kind=10)) (h9:¬ (p.kind=9∨p.kind=11)) (h14:¬ (p.kind=14∨p.kind=15)):xE v p=[]:=by
 unfold xE;rw[if_neg h1,if_neg h2,if_neg h3,if_neg h4,if_neg h8,if_neg h9,if_neg h14]
theorem jJc {v:Int} {p:Pk} (hR:Ri v p) (h:p.kind=3):p.load.size≤268435455:=by
 have:=hR.rest
 unfold qD at this;rw[if_neg (by omega),if_neg (by omega),if_pos h]at this;omega
theorem j9y (w0 w:World) (f:Nat) (v:Int) (k:Nat) (l:List UInt8) (H:Hp w0 w []) (hZ:Fm w0 w f v k l) (p:Pk) (s:Sl) (hp:p.At s w0) (hF:Fit p) (hR:Ri v p) (hT:Tabs w0) (hcn:s.ca=none→s.cc=0) (hk:k≤80000) :
  Calls Tryz.prog 23 #[.pointer (some ⟨f,0,none⟩),p.val s] w λe w'=>∃ u,e=.returned u∧FmP w0 w f v (k+40000) (l++xE v p) u w':=by
 replace hZ:=hZ.start;have HB:=H;clear H;let RR:Ending→World→Prop:=λe w'=>∃ u,e=.returned u∧FmP w0 w f v (k+40000) (l++xE v p) u w'
 go_enter Tryz.func23,Tryz.ntmps23
 generalize hA:({tmps:=_,defers:=[]}:Act)=A;have F:Fr A 78 [(1,(Pk.val p s)),(0,(.pointer (some ⟨f,0,none⟩)))]:=by rw[← hA];exact (Fr.cons (i:=1) (v:=(Pk.val p s)) (Fr.cons (i:=0) (v:=(.pointer (some ⟨f,0,none⟩))) (Fr.nil0 rfl rfl) rfl) rfl)
 clear hA;have H:=HB;clear HB;refine sg λK1 hK1=>?_;refine jj (c:=(Pk.cells p s)) (t:=36) F H rfl (qW rfl (F.e rfl) (qX _ _)) ?_;clear F A;intro b2 W A hk hN H9 F;clear H;have H:=H9;clear H9;have hN_hZ_b2:=Nat.le_trans hZ.k.size hN;replace hZ:=hZ.no hk;clear hk hN;refine nn (hK1 _ _) ?_;refine sg λK3 hK3=>?_
 iterate 2 (refine zd ?_;intro A F)
 refine nn (hK3 _ _) ?_;refine wp_block ?_;refine sg λK4 hK4=>?_;refine zb (jL) ?_;intro A F;refine zd ?_;intro A F;refine nn (hK4 _ _) ?_;refine zc (λhb5=>?_) (λhb5=>?_)
 ·skip
  refine jB ?_;refine zd ?_;intro A F;refine j7 F rfl (jA rfl (F.e rfl) (jE ((Pk.cells p s)) rfl (jY _) (jQ _) (λi=>H.cs 0 rfl i))) ?_;intro A F;refine jT (FmP w0 _ f v (k+100) (l++j0a v p)) F rfl (j6 rfl rfl (j0 (F.e rfl) (j0 (F.e rfl) j9)) jNj) (j8j w0 _ f v _ _ ⟨H.k,trivial⟩ hZ.m p s hp hF hR hT (by omega)) (λ_ _ h=>H.formed hZ h.2 (fa1 ⟨(show 36≠5 by decide),(show 36≠57 by decide)⟩ ft0)) ?_;clear F H A;intro vv W A hR H F;obtain ⟨rfl,hZ9⟩:=hR;replace hZ:=hZ.step hZ9;clear hZ9;refine wpList_nil ?_;refine (show bodyPost _ Tryz.f23 RR Exit.normal _ _ from zn0 ?_);exact ⟨_,rfl,rfl,hZ.is (by rw[zP (of_decide_eq_true hb5)]<;>first|rfl|(simp only[List.append_assoc];done)) (by omega)⟩
 refine sg λK7 hK7=>?_;refine zb (jL) ?_;intro A F;refine zd ?_;intro A F;refine nn (hK7 _ _) ?_;refine zc (λhb8=>?_) (λhb8=>?_)
 ·skip
  refine sg λK9 hK9=>?_
  iterate 3 (refine zd ?_;intro A F)
  refine jf F H rfl (j6 rfl rfl (j0 (F.e rfl) (j0 jD j9)) j3y) (zO p.present 1 _) ?_;clear F H A;intro W A hk H F;replace hZ:=hZ.no hk;clear hk;refine jT (FmP w0 _ f v (k+1) (l++by1 (vG p.present 1))) F rfl (j6 rfl rfl (j0 (F.e rfl) (j0 (F.e rfl) j9)) j5q) (j02 w0 _ f v _ _ ⟨H.k,trivial⟩ hZ.m (vG p.present 1) (by have:=hF.id;have:=hF.code;have:=hF.keep;have:=v7 p.present 1;omega) (by omega)) (λ_ _ h=>H.formed hZ h.2 (fa1 ⟨(show 36≠5 by decide),(show 36≠57 by decide)⟩ ft0)) ?_;clear F H A;intro vv W A hR H F;obtain ⟨rfl,hZ9⟩:=hR;replace hZ:=hZ.step hZ9;clear hZ9;refine nn (hK9 _ _) ?_;refine sg λK12 hK12=>?_
  iterate 3 (refine zd ?_;intro A F)
  refine jT (FmP w0 _ f v ((k+1)+1) ((l++by1 (vG p.present 1))++by1 p.code)) F rfl (j6 rfl rfl (j0 (F.e rfl) (j0 (F.e rfl) j9)) j5q) (j02 w0 _ f v _ _ ⟨H.k,trivial⟩ hZ.m p.code (by have:=hF.id;have:=hF.code;have:=hF.keep;have:=v7 p.present 1;omega) (by omega)) (λ_ _ h=>H.formed hZ h.2 (fa1 ⟨(show 36≠5 by decide),(show 36≠57 by decide)⟩ ft0)) ?_;clear F H A;intro vv W A hR H F;obtain ⟨rfl,hZ9⟩:=hR;replace hZ:=hZ.step hZ9;clear hZ9;refine nn (hK12 _ _) ?_;refine jB ?_
  iterate 3 (refine zd ?_;intro A F)
  refine jT (FmP w0 _ f v (((k+1)+1)+1) (((l++by1 (vG p.present 1))++by1 p.code)++qY v p.props)) F rfl (j6 rfl rfl (j0 (F.e rfl) (j0 (F.e rfl) j9)) j2r) (vC w0 _ f v _ _ ⟨H.k,trivial⟩ hZ.m p.props s.pa s.pc hp.hp hF.few.hp hF.wf.p hR.hv hT (by omega)) (λ_ _ h=>H.formed hZ h.2 (fa1 ⟨(show 36≠5 by decide),(show 36≠57 by decide)⟩ ft0)) ?_;clear F H A;intro vv W A hR H F;obtain ⟨rfl,hZ9⟩:=hR;replace hZ:=hZ.step hZ9;clear hZ9;refine wpList_nil ?_;refine (show bodyPost _ Tryz.f23 RR Exit.normal _ _ from zn0 ?_);exact ⟨_,rfl,rfl,hZ.is (by rw[zQ (of_decide_eq_true hb8)]<;>first|rfl|(simp only[List.append_assoc];done)) (by omega)⟩
 refine sg λK15 hK15=>?_;refine zb (jL) ?_;intro A F;refine zd ?_;intro A F;refine nn (hK15 _ _) ?_;refine zc (λhb16=>?_) (λhb16=>?_)
 ·skip
  refine jB ?_;refine zd ?_;intro A F;refine j7 F rfl (jA rfl (F.e rfl) (jE ((Pk.cells p s)) rfl (jY _) (jQ _) (λi=>H.cs 0 rfl i))) ?_;intro A F;refine jT (FmP w0 _ f v (k+100) (l++j23 v p)) F rfl (j6 rfl rfl (j0 (F.e rfl) (j0 (F.e rfl) j9)) jNk) (j90 w0 _ f v _ _ ⟨H.k,trivial⟩ hZ.m p s hp hF hR hT (jJc hR (of_decide_eq_true hb16)) (by omega)) (λ_ _ h=>H.formed hZ h.2 (fa1 ⟨(show 36≠5 by decide),(show 36≠57 by decide)⟩ ft0)) ?_;clear F H A;intro vv W A hR H F;obtain ⟨rfl,hZ9⟩:=hR;replace hZ:=hZ.step hZ9;clear hZ9;refine wpList_nil ?_;refine (show bodyPost _ Tryz.f23 RR Exit.normal _ _ from zn0 ?_);exact ⟨_,rfl,rfl,hZ.is (by rw[zR (of_decide_eq_true hb16)]<;>first|rfl|(simp only[List.append_assoc];done)) (by omega)⟩
 refine wp_seq_k λK18 hK18=>?_;refine sg λK19 hK19=>?_;refine zb (jL) ?_;intro A F;refine zd ?_;intro A F;refine nn (hK19 _ _) ?_;refine zc (λhb20=>?_) (λhb20=>?_)
 ·skip
  refine wp_skip (hK18 _ _ ?_);refine wp_cond_true ((F.e rfl).trans (congrArg Value.bool hb20)) ?_;refine sg λK21 hK21=>?_
  iterate 3 (refine zd ?_;intro A F)
  refine jT (FmP w0 _ f v (k+1) (l++by2 p.id)) F rfl (j6 rfl rfl (j0 (F.e rfl) (j0 (F.e rfl) j9)) j1z) (xL w0 _ f v _ _ ⟨H.k,trivial⟩ hZ.m p.id (by have:=hF.id;have:=hF.code;have:=hF.keep;have:=v7 p.present 1;omega) (by omega)) (λ_ _ h=>H.formed hZ h.2 (fa1 ⟨(show 36≠5 by decide),(show 36≠57 by decide)⟩ ft0)) ?_;clear F H A;intro vv W A hR H F;obtain ⟨rfl,hZ9⟩:=hR;replace hZ:=hZ.step hZ9;clear hZ9;refine nn (hK21 _ _) ?_;refine jB ?_;refine zd ?_;intro A F;refine j7 F rfl (jA rfl (F.e rfl) (jE ((Pk.cells p s)) rfl (jY _) (jQ _) (λi=>H.cs 0 rfl i))) ?_;intro A F;refine jT (FmP w0 _ f v ((k+1)+100) ((l++by2 p.id)++vd v p)) F rfl (j6 rfl rfl (j0 (F.e rfl) (j0 (F.e rfl) j9)) j7l) (z6 w0 _ f v _ _ ⟨H.k,trivial⟩ hZ.m p s hp hF hR hT (by omega)) (λ_ _ h=>H.formed hZ h.2 (fa1 ⟨(show 36≠5 by decide),(show 36≠57 by decide)⟩ ft0)) ?_;clear F H A;intro vv W A hR H F;obtain ⟨rfl,hZ9⟩:=hR;replace hZ:=hZ.step hZ9;clear hZ9;refine wpList_nil ?_;refine (show bodyPost _ Tryz.f23 RR Exit.normal _ _ from zn0 ?_);exact ⟨_,rfl,rfl,hZ.is (by have:=hb5; have:=hb8; have:=hb16; have:=hb20;simp only[oE9,Bool.or_eq_false_iff,dE9,decide_eq_false_iff_not]at *;first|(rw[zP (by omega)]<;>first|rfl|(simp only[List.append_assoc];done))|(rw[zQ (by omega)]<;>first|rfl|(simp only[List.append_assoc];done))|(rw[zR (by omega)]<;>first|rfl|(simp only[List.append_assoc];done))|(rw[zo (by omega)]<;>first|rfl|(simp only[List.append_assoc];done))|(rw[zp (by omega)]<;>first|rfl|(simp only[List.append_assoc];done))|(rw[zq (by omega)]<;>first|rfl|(simp only[List.append_assoc];done))|(rw[xY (by omega)]<;>first|rfl|(simp only[List.append_assoc];done))|(rw[zn (by omega) (by omega) (by omega) (by omega) (by omega) (by omega) (by omega),List.append_nil])) (by omega)⟩
 refine sg λK24 hK24=>?_;refine zb (jL) ?_;intro A F;refine zd ?_;intro A F;refine nn (hK24 _ _) ?_;refine zc (λhb25=>?_) (λhb25=>?_)
 ·skip
  refine wp_skip (hK18 _ _ ?_);refine wp_cond_true ((F.e rfl).trans (congrArg Value.bool hb25)) ?_;refine sg λK26 hK26=>?_
  iterate 3 (refine zd ?_;intro A F)
  refine jT (FmP w0 _ f v (k+1) (l++by2 p.id)) F rfl (j6 rfl rfl (j0 (F.e rfl) (j0 (F.e rfl) j9)) j1z) (xL w0 _ f v _ _ ⟨H.k,trivial⟩ hZ.m p.id (by have:=hF.id;have:=hF.code;have:=hF.keep;have:=v7 p.present 1;omega) (by omega)) (λ_ _ h=>H.formed hZ h.2 (fa1 ⟨(show 36≠5 by decide),(show 36≠57 by decide)⟩ ft0)) ?_;clear F H A;intro vv W A hR H F;obtain ⟨rfl,hZ9⟩:=hR;replace hZ:=hZ.step hZ9;clear hZ9;refine nn (hK26 _ _) ?_;refine jB ?_;refine zd ?_;intro A F;refine j7 F rfl (jA rfl (F.e rfl) (jE ((Pk.cells p s)) rfl (jY _) (jQ _) (λi=>H.cs 0 rfl i))) ?_;intro A F;refine jT (FmP w0 _ f v ((k+1)+100) ((l++by2 p.id)++vd v p)) F rfl (j6 rfl rfl (j0 (F.e rfl) (j0 (F.e rfl) j9)) j7l) (z6 w0 _ f v _ _ ⟨H.k,trivial⟩ hZ.m p s hp hF hR hT (by omega)) (λ_ _ h=>H.formed hZ h.2 (fa1 ⟨(show 36≠5 by decide),(show 36≠57 by decide)⟩ ft0)) ?_;clear F H A;intro vv W A hR H F;obtain ⟨rfl,hZ9⟩:=hR;replace hZ:=hZ.step hZ9;clear hZ9;refine wpList_nil ?_;refine (show bodyPost _ Tryz.f23 RR Exit.normal _ _ from zn0 ?_);exact ⟨_,rfl,rfl,hZ.is (by have:=hb5; have:=hb8; have:=hb16; have:=hb20; have:=hb25;simp only[oE9,Bool.or_eq_false_iff,dE9,decide_eq_false_iff_not]at *;first|(rw[zP (by omega)]<;>first|rfl|(simp only[List.append_assoc];done))|(rw[zQ (by omega)]<;>first|rfl|(simp only[List.append_assoc];done))|(rw[zR (by omega)]<;>first|rfl|(simp only[List.append_assoc];done))|(rw[zo (by omega)]<;>first|rfl|(simp only[List.append_assoc];done))|(rw[zp (by omega)]<;>first|rfl|(simp only[List.append_assoc];done))|(rw[zq (by omega)]<;>first|rfl|(simp only[List.append_assoc];done))|(rw[xY (by omega)]<;>first|rfl|(simp only[List.append_assoc];done))|(rw[zn (by omega) (by omega) (by omega) (by omega) (by omega) (by omega) (by omega),List.append_nil])) (by omega)⟩
 refine sg λK29 hK29=>?_;refine zb (jL) ?_;intro A F;refine zd ?_;intro A F;refine nn (hK29 _ _) ?_;refine zc (λhb30=>?_) (λhb30=>?_)
 ·skip
  refine wp_skip (hK18 _ _ ?_);refine wp_cond_true ((F.e rfl).trans (congrArg Value.bool hb30)) ?_;replace F:=(((F.nil.cons (F.g 5 _ rfl)).cons (F.g 3 _ rfl)).cons (F.g 0 _ rfl))
  refine sg λK31 hK31=>?_
  iterate 3 (refine zd ?_;intro A F)
  refine jT (FmP w0 _ f v (k+1) (l++by2 p.id)) F rfl (j6 rfl rfl (j0 (F.e rfl) (j0 (F.e rfl) j9)) j1z) (xL w0 _ f v _ _ ⟨H.k,trivial⟩ hZ.m p.id (by have:=hF.id;have:=hF.code;have:=hF.keep;have:=v7 p.present 1;omega) (by omega)) (λ_ _ h=>H.formed hZ h.2 (fa1 ⟨(show 36≠5 by decide),(show 36≠57 by decide)⟩ ft0)) ?_;clear F H A;intro vv W A hR H F;obtain ⟨rfl,hZ9⟩:=hR;replace hZ:=hZ.step hZ9;clear hZ9;refine nn (hK31 _ _) ?_;refine jB ?_;refine zd ?_;intro A F;refine j7 F rfl (jA rfl (F.e rfl) (jE ((Pk.cells p s)) rfl (jY _) (jQ _) (λi=>H.cs 0 rfl i))) ?_;intro A F;refine jT (FmP w0 _ f v ((k+1)+100) ((l++by2 p.id)++vd v p)) F rfl (j6 rfl rfl (j0 (F.e rfl) (j0 (F.e rfl) j9)) j7l) (z6 w0 _ f v _ _ ⟨H.k,trivial⟩ hZ.m p s hp hF hR hT (by omega)) (λ_ _ h=>H.formed hZ h.2 (fa1 ⟨(show 36≠5 by decide),(show 36≠57 by decide)⟩ ft0)) ?_;clear F H A;intro vv W A hR H F;obtain ⟨rfl,hZ9⟩:=hR;replace hZ:=hZ.step hZ9;clear hZ9;refine wpList_nil ?_;refine (show bodyPost _ Tryz.f23 RR Exit.normal _ _ from zn0 ?_);exact ⟨_,rfl,rfl,hZ.is (by have:=hb5; have:=hb8; have:=hb16; have:=hb20; have:=hb25; have:=hb30;simp only[oE9,Bool.or_eq_false_iff,dE9,decide_eq_false_iff_not]at *;first|(rw[zP (by omega)]<;>first|rfl|(simp only[List.append_assoc];done))|(rw[zQ (by omega)]<;>first|rfl|(simp only[List.append_assoc];done))|(rw[zR (by omega)]<;>first|rfl|(simp only[List.append_assoc];done))|(rw[zo (by omega)]<;>first|rfl|(simp only[List.append_assoc];done))|(rw[zp (by omega)]<;>first|rfl|(simp only[List.append_assoc];done))|(rw[zq (by omega)]<;>first|rfl|(simp only[List.append_assoc];done))|(rw[xY (by omega)]<;>first|rfl|(simp only[List.append_assoc];done))|(rw[zn (by omega) (by omega) (by omega) (by omega) (by omega) (by omega) (by omega),List.append_nil])) (by omega)⟩
 refine jB ?_;refine zb (jL) ?_;intro A F;refine zd ?_;intro A F;refine nn (hK18 _ _) ?_;refine zc (λhb34=>?_) (λhb34=>?_)
 ·skip
  replace F:=(((F.nil.cons (F.g 5 _ rfl)).cons (F.g 3 _ rfl)).cons (F.g 0 _ rfl))
  refine sg λK35 hK35=>?_
  iterate 3 (refine zd ?_;intro A F)
  refine jT (FmP w0 _ f v (k+1) (l++by2 p.id)) F rfl (j6 rfl rfl (j0 (F.e rfl) (j0 (F.e rfl) j9)) j1z) (xL w0 _ f v _ _ ⟨H.k,trivial⟩ hZ.m p.id (by have:=hF.id;have:=hF.code;have:=hF.keep;have:=v7 p.present 1;omega) (by omega)) (λ_ _ h=>H.formed hZ h.2 (fa1 ⟨(show 36≠5 by decide),(show 36≠57 by decide)⟩ ft0)) ?_;clear F H A;intro vv W A hR H F;obtain ⟨rfl,hZ9⟩:=hR;replace hZ:=hZ.step hZ9;clear hZ9;refine nn (hK35 _ _) ?_;refine jB ?_;refine zd ?_;intro A F;refine j7 F rfl (jA rfl (F.e rfl) (jE ((Pk.cells p s)) rfl (jY _) (jQ _) (λi=>H.cs 0 rfl i))) ?_;intro A F;refine jT (FmP w0 _ f v ((k+1)+100) ((l++by2 p.id)++vd v p)) F rfl (j6 rfl rfl (j0 (F.e rfl) (j0 (F.e rfl) j9)) j7l) (z6 w0 _ f v _ _ ⟨H.k,trivial⟩ hZ.m p s hp hF hR hT (by omega)) (λ_ _ h=>H.formed hZ h.2 (fa1 ⟨(show 36≠5 by decide),(show 36≠57 by decide)⟩ ft0)) ?_;clear F H A;intro vv W A hR H F;obtain ⟨rfl,hZ9⟩:=hR;replace hZ:=hZ.step hZ9;clear hZ9;refine wpList_nil ?_;refine (show bodyPost _ Tryz.f23 RR Exit.normal _ _ from zn0 ?_);exact ⟨_,rfl,rfl,hZ.is (by have:=hb5; have:=hb8; have:=hb16; have:=hb20; have:=hb25; have:=hb30; have:=hb34;simp only[oE9,Bool.or_eq_false_iff,dE9,decide_eq_false_iff_not]at *;first|(rw[zP (by omega)]<;>first|rfl|(simp only[List.append_assoc];done))|(rw[zQ (by omega)]<;>first|rfl|(simp only[List.append_assoc];done))|(rw[zR (by omega)]<;>first|rfl|(simp only[List.append_assoc];done))|(rw[zo (by omega)]<;>first|rfl|(simp only[List.append_assoc];done))|(rw[zp (by omega)]<;>first|rfl|(simp only[List.append_assoc];done))|(rw[zq (by omega)]<;>first|rfl|(simp only[List.append_assoc];done))|(rw[xY (by omega)]<;>first|rfl|(simp only[List.append_assoc];done))|(rw[zn (by omega) (by omega) (by omega) (by omega) (by omega) (by omega) (by omega),List.append_nil])) (by omega)⟩
 replace F:=(((F.nil.cons (F.g 5 _ rfl)).cons (F.g 3 _ rfl)).cons (F.g 0 _ rfl))
 refine wp_seq_k λK38 hK38=>?_;refine sg λK39 hK39=>?_;refine zb (jL) ?_;intro A F;refine zd ?_;intro A F;refine nn (hK39 _ _) ?_;refine zc (λhb40=>?_) (λhb40=>?_)
 ·skip
  refine wp_skip (hK38 _ _ ?_);refine wp_cond_true ((F.e rfl).trans (congrArg Value.bool hb40)) ?_;refine sg λK41 hK41=>?_
  iterate 3 (refine zd ?_;intro A F)
  refine jT (FmP w0 _ f v (k+1) (l++by2 p.id)) F rfl (j6 rfl rfl (j0 (F.e rfl) (j0 (F.e rfl) j9)) j1z) (xL w0 _ f v _ _ ⟨H.k,trivial⟩ hZ.m p.id (by have:=hF.id;have:=hF.code;have:=hF.keep;have:=v7 p.present 1;omega) (by omega)) (λ_ _ h=>H.formed hZ h.2 (fa1 ⟨(show 36≠5 by decide),(show 36≠57 by decide)⟩ ft0)) ?_;clear F H A;intro vv W A hR H F;obtain ⟨rfl,hZ9⟩:=hR;replace hZ:=hZ.step hZ9;clear hZ9;refine nn (hK41 _ _) ?_;refine sg λK43 hK43=>?_
  iterate 3 (refine zd ?_;intro A F)
  refine jT (FmP w0 _ f v ((k+1)+1) ((l++by2 p.id)++qY v p.props)) F rfl (j6 rfl rfl (j0 (F.e rfl) (j0 (F.e rfl) j9)) j2r) (vC w0 _ f v _ _ ⟨H.k,trivial⟩ hZ.m p.props s.pa s.pc hp.hp hF.few.hp hF.wf.p hR.hv hT (by omega)) (λ_ _ h=>H.formed hZ h.2 (fa1 ⟨(show 36≠5 by decide),(show 36≠57 by decide)⟩ ft0)) ?_;clear F H A;intro vv W A hR H F;obtain ⟨rfl,hZ9⟩:=hR;replace hZ:=hZ.step hZ9;clear hZ9;refine nn (hK43 _ _) ?_;refine jB ?_;refine zd ?_;intro A F;refine j7 F rfl (jA rfl (F.e rfl) (jE ((Pk.cells p s)) rfl (jY _) (jQ _) (λi=>H.cs 0 rfl i))) ?_;intro A F;refine jT (FmP w0 _ f v (((k+1)+1)+31000) (((l++by2 p.id)++qY v p.props)++vS p.kind p.filters)) F rfl (j6 rfl rfl (j0 (F.e rfl) (j0 (F.e rfl) j9)) jKs) (j2o w0 _ f v _ _ ⟨H.k,trivial⟩ hZ.m p s hp hF hR hT (by omega)) (λ_ _ h=>H.formed hZ h.2 (fa1 ⟨(show 36≠5 by decide),(show 36≠57 by decide)⟩ ft0)) ?_;clear F H A;intro vv W A hR H F;obtain ⟨rfl,hZ9⟩:=hR;replace hZ:=hZ.step hZ9;clear hZ9;refine wpList_nil ?_;refine (show bodyPost _ Tryz.f23 RR Exit.normal _ _ from zn0 ?_);exact ⟨_,rfl,rfl,hZ.is (by have:=hb5; have:=hb8; have:=hb16; have:=hb20; have:=hb25; have:=hb30; have:=hb34; have:=hb40;simp only[oE9,Bool.or_eq_false_iff,dE9,decide_eq_false_iff_not]at *;first|(rw[zP (by omega)]<;>first|rfl|(simp only[List.append_assoc];done))|(rw[zQ (by omega)]<;>first|rfl|(simp only[List.append_assoc];done))|(rw[zR (by omega)]<;>first|rfl|(simp only[List.append_assoc];done))|(rw[zo (by omega)]<;>first|rfl|(simp only[List.append_assoc];done))|(rw[zp (by omega)]<;>first|rfl|(simp only[List.append_assoc];done))|(rw[zq (by omega)]<;>first|rfl|(simp only[List.append_assoc];done))|(rw[xY (by omega)]<;>first|rfl|(simp only[List.append_assoc];done))|(rw[zn (by omega) (by omega) (by omega) (by omega) (by omega) (by omega) (by omega),List.append_nil])) (by omega)⟩
 refine jB ?_;refine zb (jL) ?_;intro A F;refine zd ?_;intro A F;refine nn (hK38 _ _) ?_;refine zc (λhb46=>?_) (λhb46=>?_)
 ·skip
  refine sg λK47 hK47=>?_
  iterate 3 (refine zd ?_;intro A F)
  refine jT (FmP w0 _ f v (k+1) (l++by2 p.id)) F rfl (j6 rfl rfl (j0 (F.e rfl) (j0 (F.e rfl) j9)) j1z) (xL w0 _ f v _ _ ⟨H.k,trivial⟩ hZ.m p.id (by have:=hF.id;have:=hF.code;have:=hF.keep;have:=v7 p.present 1;omega) (by omega)) (λ_ _ h=>H.formed hZ h.2 (fa1 ⟨(show 36≠5 by decide),(show 36≠57 by decide)⟩ ft0)) ?_;clear F H A;intro vv W A hR H F;obtain ⟨rfl,hZ9⟩:=hR;replace hZ:=hZ.step hZ9;clear hZ9;refine nn (hK47 _ _) ?_;refine sg λK49 hK49=>?_
  iterate 3 (refine zd ?_;intro A F)
  refine jT (FmP w0 _ f v ((k+1)+1) ((l++by2 p.id)++qY v p.props)) F rfl (j6 rfl rfl (j0 (F.e rfl) (j0 (F.e rfl) j9)) j2r) (vC w0 _ f v _ _ ⟨H.k,trivial⟩ hZ.m p.props s.pa s.pc hp.hp hF.few.hp hF.wf.p hR.hv hT (by omega)) (λ_ _ h=>H.formed hZ h.2 (fa1 ⟨(show 36≠5 by decide),(show 36≠57 by decide)⟩ ft0)) ?_;clear F H A;intro vv W A hR H F;obtain ⟨rfl,hZ9⟩:=hR;replace hZ:=hZ.step hZ9;clear hZ9;refine nn (hK49 _ _) ?_;refine jB ?_;refine zd ?_;intro A F;refine j7 F rfl (jA rfl (F.e rfl) (jE ((Pk.cells p s)) rfl (jY _) (jQ _) (λi=>H.cs 0 rfl i))) ?_;intro A F;refine jT (FmP w0 _ f v (((k+1)+1)+31000) (((l++by2 p.id)++qY v p.props)++vS p.kind p.filters)) F rfl (j6 rfl rfl (j0 (F.e rfl) (j0 (F.e rfl) j9)) jKs) (j2o w0 _ f v _ _ ⟨H.k,trivial⟩ hZ.m p s hp hF hR hT (by omega)) (λ_ _ h=>H.formed hZ h.2 (fa1 ⟨(show 36≠5 by decide),(show 36≠57 by decide)⟩ ft0)) ?_;clear F H A;intro vv W A hR H F;obtain ⟨rfl,hZ9⟩:=hR;replace hZ:=hZ.step hZ9;clear hZ9;refine wpList_nil ?_;refine (show bodyPost _ Tryz.f23 RR Exit.normal _ _ from zn0 ?_);exact ⟨_,rfl,rfl,hZ.is (by have:=hb5; have:=hb8; have:=hb16; have:=hb20; have:=hb25; have:=hb30; have:=hb34; have:=hb40; have:=hb46;simp only[oE9,Bool.or_eq_false_iff,dE9,decide_eq_false_iff_not]at *;first|(rw[zP (by omega)]<;>first|rfl|(simp only[List.append_assoc];done))|(rw[zQ (by omega)]<;>first|rfl|(simp only[List.append_assoc];done))|(rw[zR (by omega)]<;>first|rfl|(simp only[List.append_assoc];done))|(rw[zo (by omega)]<;>first|rfl|(simp only[List.append_assoc];done))|(rw[zp (by omega)]<;>first|rfl|(simp only[List.append_assoc];done))|(rw[zq (by omega)]<;>first|rfl|(simp only[List.append_assoc];done))|(rw[xY (by omega)]<;>first|rfl|(simp only[List.append_assoc];done))|(rw[zn (by omega) (by omega) (by omega) (by omega) (by omega) (by omega) (by omega),List.append_nil])) (by omega)⟩
 refine wp_seq_k λK52 hK52=>?_;refine sg λK53 hK53=>?_;refine zb (jL) ?_;intro A F;refine zd ?_;intro A F;refine nn (hK53 _ _) ?_;refine zc (λhb54=>?_) (λhb54=>?_)
 ·skip
  refine wp_skip (hK52 _ _ ?_);refine wp_cond_true ((F.e rfl).trans (congrArg Value.bool hb54)) ?_;refine sg λK55 hK55=>?_
  iterate 3 (refine zd ?_;intro A F)
  refine jT (FmP w0 _ f v (k+1) (l++by2 p.id)) F rfl (j6 rfl rfl (j0 (F.e rfl) (j0 (F.e rfl) j9)) j1z) (xL w0 _ f v _ _ ⟨H.k,trivial⟩ hZ.m p.id (by have:=hF.id;have:=hF.code;have:=hF.keep;have:=v7 p.present 1;omega) (by omega)) (λ_ _ h=>H.formed hZ h.2 (fa1 ⟨(show 36≠5 by decide),(show 36≠57 by decide)⟩ ft0)) ?_;clear F H A;intro vv W A hR H F;obtain ⟨rfl,hZ9⟩:=hR;replace hZ:=hZ.step hZ9;clear hZ9;refine nn (hK55 _ _) ?_;refine sg λK57 hK57=>?_
  iterate 3 (refine zd ?_;intro A F)
  refine jT (FmP w0 _ f v ((k+1)+1) ((l++by2 p.id)++qY v p.props)) F rfl (j6 rfl rfl (j0 (F.e rfl) (j0 (F.e rfl) j9)) j2r) (vC w0 _ f v _ _ ⟨H.k,trivial⟩ hZ.m p.props s.pa s.pc hp.hp hF.few.hp hF.wf.p hR.hv hT (by omega)) (λ_ _ h=>H.formed hZ h.2 (fa1 ⟨(show 36≠5 by decide),(show 36≠57 by decide)⟩ ft0)) ?_;clear F H A;intro vv W A hR H F;obtain ⟨rfl,hZ9⟩:=hR;replace hZ:=hZ.step hZ9;clear hZ9;refine nn (hK57 _ _) ?_;refine jB ?_
  iterate 3 (refine zd ?_;intro A F)
  refine jT (FmP w0 _ f v (((k+1)+1)+1) (((l++by2 p.id)++qY v p.props)++p.codes)) F rfl (j6 rfl rfl (j0 (F.e rfl) (j0 (F.e rfl) j9)) j5r) (zz w0 _ f v _ _ ⟨H.k,trivial⟩ hZ.m s.ca s.cc p.codes (hp.hc.keptNo H.k) hcn (by have:=hR.nc;omega) (by omega)) (λ_ _ h=>H.formed hZ h.2 (fa1 ⟨(show 36≠5 by decide),(show 36≠57 by decide)⟩ ft0)) ?_;clear F H A;intro vv W A hR H F;obtain ⟨rfl,hZ9⟩:=hR;replace hZ:=hZ.step hZ9;clear hZ9;refine wpList_nil ?_;refine (show bodyPost _ Tryz.f23 RR Exit.normal _ _ from zn0 ?_);exact ⟨_,rfl,rfl,hZ.is (by have:=hb5; have:=hb8; have:=hb16; have:=hb20; have:=hb25; have:=hb30; have:=hb34; have:=hb40; have:=hb46; have:=hb54;simp only[oE9,Bool.or_eq_false_iff,dE9,decide_eq_false_iff_not]at *;first|(rw[zP (by omega)]<;>first|rfl|(simp only[List.append_assoc];done))|(rw[zQ (by omega)]<;>first|rfl|(simp only[List.append_assoc];done))|(rw[zR (by omega)]<;>first|rfl|(simp only[List.append_assoc];done))|(rw[zo (by omega)]<;>first|rfl|(simp only[List.append_assoc];done))|(rw[zp (by omega)]<;>first|rfl|(simp only[List.append_assoc];done))|(rw[zq (by omega)]<;>first|rfl|(simp only[List.append_assoc];done))|(rw[xY (by omega)]<;>first|rfl|(simp only[List.append_assoc];done))|(rw[zn (by omega) (by omega) (by omega) (by omega) (by omega) (by omega) (by omega),List.append_nil])) (by omega)⟩
 refine jB ?_;refine zb (jL) ?_;intro A F;refine zd ?_;intro A F;refine nn (hK52 _ _) ?_;refine zc (λhb60=>?_) (λhb60=>?_)
 ·skip
  refine sg λK61 hK61=>?_
  iterate 3 (refine zd ?_;intro A F)
  refine jT (FmP w0 _ f v (k+1) (l++by2 p.id)) F rfl (j6 rfl rfl (j0 (F.e rfl) (j0 (F.e rfl) j9)) j1z) (xL w0 _ f v _ _ ⟨H.k,trivial⟩ hZ.m p.id (by have:=hF.id;have:=hF.code;have:=hF.keep;have:=v7 p.present 1;omega) (by omega)) (λ_ _ h=>H.formed hZ h.2 (fa1 ⟨(show 36≠5 by decide),(show 36≠57 by decide)⟩ ft0)) ?_;clear F H A;intro vv W A hR H F;obtain ⟨rfl,hZ9⟩:=hR;replace hZ:=hZ.step hZ9;clear hZ9;refine nn (hK61 _ _) ?_;refine sg λK63 hK63=>?_
  iterate 3 (refine zd ?_;intro A F)
  refine jT (FmP w0 _ f v ((k+1)+1) ((l++by2 p.id)++qY v p.props)) F rfl (j6 rfl rfl (j0 (F.e rfl) (j0 (F.e rfl) j9)) j2r) (vC w0 _ f v _ _ ⟨H.k,trivial⟩ hZ.m p.props s.pa s.pc hp.hp hF.few.hp hF.wf.p hR.hv hT (by omega)) (λ_ _ h=>H.formed hZ h.2 (fa1 ⟨(show 36≠5 by decide),(show 36≠57 by decide)⟩ ft0)) ?_;clear F H A;intro vv W A hR H F;obtain ⟨rfl,hZ9⟩:=hR;replace hZ:=hZ.step hZ9;clear hZ9;refine nn (hK63 _ _) ?_;refine jB ?_
  iterate 3 (refine zd ?_;intro A F)
  refine jT (FmP w0 _ f v (((k+1)+1)+1) (((l++by2 p.id)++qY v p.props)++p.codes)) F rfl (j6 rfl rfl (j0 (F.e rfl) (j0 (F.e rfl) j9)) j5r) (zz w0 _ f v _ _ ⟨H.k,trivial⟩ hZ.m s.ca s.cc p.codes (hp.hc.keptNo H.k) hcn (by have:=hR.nc;omega) (by omega)) (λ_ _ h=>H.formed hZ h.2 (fa1 ⟨(show 36≠5 by decide),(show 36≠57 by decide)⟩ ft0)) ?_;clear F H A;intro vv W A hR H F;obtain ⟨rfl,hZ9⟩:=hR;replace hZ:=hZ.step hZ9;clear hZ9;refine wpList_nil ?_;refine (show bodyPost _ Tryz.f23 RR Exit.normal _ _ from zn0 ?_);exact ⟨_,rfl,rfl,hZ.is (by have:=hb5; have:=hb8; have:=hb16; have:=hb20; have:=hb25; have:=hb30; have:=hb34; have:=hb40; have:=hb46; have:=hb54; have:=hb60;simp only[oE9,Bool.or_eq_false_iff,dE9,decide_eq_false_iff_not]at *;first|(rw[zP (by omega)]<;>first|rfl|(simp only[List.append_assoc];done))|(rw[zQ (by omega)]<;>first|rfl|(simp only[List.append_assoc];done))|(rw[zR (by omega)]<;>first|rfl|(simp only[List.append_assoc];done))|(rw[zo (by omega)]<;>first|rfl|(simp only[List.append_assoc];done))|(rw[zp (by omega)]<;>first|rfl|(simp only[List.append_assoc];done))|(rw[zq (by omega)]<;>first|rfl|(simp only[List.append_assoc];done))|(rw[xY (by omega)]<;>first|rfl|(simp only[List.append_assoc];done))|(rw[zn (by omega) (by omega) (by omega) (by omega) (by omega) (by omega) (by omega),List.append_nil])) (by omega)⟩
 refine wp_seq_k λK66 hK66=>?_;refine sg λK67 hK67=>?_;refine zb (jL) ?_;intro A F;refine zd ?_;intro A F;refine nn (hK67 _ _) ?_;refine zc (λhb68=>?_) (λhb68=>?_)
 ·skip
  refine wp_skip (hK66 _ _ ?_);refine wp_cond_true ((F.e rfl).trans (congrArg Value.bool hb68)) ?_;refine jB ?_;refine zd ?_;intro A F;refine j7 F rfl (jA rfl (F.e rfl) (jE ((Pk.cells p s)) rfl (jY _) (jQ _) (λi=>H.cs 0 rfl i))) ?_;intro A F;refine jT (FmP w0 _ f v (k+100) (l++vd v p)) F rfl (j6 rfl rfl (j0 (F.e rfl) (j0 (F.e rfl) j9)) j7l) (z6 w0 _ f v _ _ ⟨H.k,trivial⟩ hZ.m p s hp hF hR hT (by omega)) (λ_ _ h=>H.formed hZ h.2 (fa1 ⟨(show 36≠5 by decide),(show 36≠57 by decide)⟩ ft0)) ?_;clear F H A;intro vv W A hR H F;obtain ⟨rfl,hZ9⟩:=hR;replace hZ:=hZ.step hZ9;clear hZ9;refine wpList_nil ?_;refine (show bodyPost _ Tryz.f23 RR Exit.normal _ _ from zn0 ?_);exact ⟨_,rfl,rfl,hZ.is (by have:=hb5; have:=hb8; have:=hb16; have:=hb20; have:=hb25; have:=hb30; have:=hb34; have:=hb40; have:=hb46; have:=hb54; have:=hb60; have:=hb68;simp only[oE9,Bool.or_eq_false_iff,dE9,decide_eq_false_iff_not]at *;first|(rw[zP (by omega)]<;>first|rfl|(simp only[List.append_assoc];done))|(rw[zQ (by omega)]<;>first|rfl|(simp only[List.append_assoc];done))|(rw[zR (by omega)]<;>first|rfl|(simp only[List.append_assoc];done))|(rw[zo (by omega)]<;>first|rfl|(simp only[List.append_assoc];done))|(rw[zp (by omega)]<;>first|rfl|(simp only[List.append_assoc];done))|(rw[zq (by omega)]<;>first|rfl|(simp only[List.append_assoc];done))|(rw[xY (by omega)]<;>first|rfl|(simp only[List.append_assoc];done))|(rw[zn (by omega) (by omega) (by omega) (by omega) (by omega) (by omega) (by omega),List.append_nil])) (by omega)⟩
 refine jB ?_;refine zb (jL) ?_;intro A F;refine zd ?_;intro A F;refine nn (hK66 _ _) ?_;refine zc (λhb70=>?_) (λhb70=>?_)
 ·skip
  refine jB ?_;refine zd ?_;intro A F;refine j7 F rfl (jA rfl (F.e rfl) (jE ((Pk.cells p s)) rfl (jY _) (jQ _) (λi=>H.cs 0 rfl i))) ?_;intro A F;refine jT (FmP w0 _ f v (k+100) (l++vd v p)) F rfl (j6 rfl rfl (j0 (F.e rfl) (j0 (F.e rfl) j9)) j7l) (z6 w0 _ f v _ _ ⟨H.k,trivial⟩ hZ.m p s hp hF hR hT (by omega)) (λ_ _ h=>H.formed hZ h.2 (fa1 ⟨(show 36≠5 by decide),(show 36≠57 by decide)⟩ ft0)) ?_;clear F H A;intro vv W A hR H F;obtain ⟨rfl,hZ9⟩:=hR;replace hZ:=hZ.step hZ9;clear hZ9;refine wpList_nil ?_;refine (show bodyPost _ Tryz.f23 RR Exit.normal _ _ from zn0 ?_);exact ⟨_,rfl,rfl,hZ.is (by have:=hb5; have:=hb8; have:=hb16; have:=hb20; have:=hb25; have:=hb30; have:=hb34; have:=hb40; have:=hb46; have:=hb54; have:=hb60; have:=hb68; have:=hb70;simp only[oE9,Bool.or_eq_false_iff,dE9,decide_eq_false_iff_not]at *;first|(rw[zP (by omega)]<;>first|rfl|(simp only[List.append_assoc];done))|(rw[zQ (by omega)]<;>first|rfl|(simp only[List.append_assoc];done))|(rw[zR (by omega)]<;>first|rfl|(simp only[List.append_assoc];done))|(rw[zo (by omega)]<;>first|rfl|(simp only[List.append_assoc];done))|(rw[zp (by omega)]<;>first|rfl|(simp only[List.append_assoc];done))|(rw[zq (by omega)]<;>first|rfl|(simp only[List.append_assoc];done))|(rw[xY (by omega)]<;>first|rfl|(simp only[List.append_assoc];done))|(rw[zn (by omega) (by omega) (by omega) (by omega) (by omega) (by omega) (by omega),List.append_nil])) (by omega)⟩
 refine wp_skip ?_;refine (show bodyPost _ Tryz.f23 RR Exit.normal _ _ from zn0 ?_);exact ⟨_,rfl,rfl,hZ.is (by have:=hb5; have:=hb8; have:=hb16; have:=hb20; have:=hb25; have:=hb30; have:=hb34; have:=hb40; have:=hb46; have:=hb54; have:=hb60; have:=hb68; have:=hb70;simp only[oE9,Bool.or_eq_false_iff,dE9,decide_eq_false_iff_not]at *;first|(rw[zP (by omega)]<;>first|rfl|(simp only[List.append_assoc];done))|(rw[zQ (by omega)]<;>first|rfl|(simp only[List.append_assoc];done))|(rw[zR (by omega)]<;>first|rfl|(simp only[List.append_assoc];done))|(rw[zo (by omega)]<;>first|rfl|(simp only[List.append_assoc];done))|(rw[zp (by omega)]<;>first|rfl|(simp only[List.append_assoc];done))|(rw[zq (by omega)]<;>first|rfl|(simp only[List.append_assoc];done))|(rw[xY (by omega)]<;>first|rfl|(simp only[List.append_assoc];done))|(rw[zn (by omega) (by omega) (by omega) (by omega) (by omega) (by omega) (by omega),List.append_nil])) (by omega)⟩
def xp (v:Int) (p:Pk):List UInt8:=if qj v p=true then jFh v p else []
theorem jK0 {v:Int} {p:Pk} (h:decide (xU v p=0)=true):qj v p=false:=by
 have h:=of_decide_eq_true h;unfold xU at h
 split at h
 ·omega
 ·rename_i h2;simpa using h2
theorem j9c {v:Int} {p:Pk} (h:decide (xU v p=0)=false):qj v p=true:=by
 have h:=of_decide_eq_false h;unfold xU at h
 split at h
 ·rename_i h2;exact h2
 ·omega
def j9i (v:Int) (p:Pk) (w:World) (u:Value) (w':World):Prop :=
 ∃ a c,u=.tuple #[.slice a (xp v p).length c,.int .i64 (if qj v p=true then 0 else 1)]∧w'.ownsRow w.heap.size 5 1 (.slice a (xp v p).length c) (xp v p).length (B8 (xp v p))
theorem jFi {v:Int} {p:Pk} {w w':World} (h:qj v p=false):j9i v p w (.tuple #[.slice none 0 0,.int .i64 1]) w':=by
 refine ⟨none,0,?_,?_⟩
 ·unfold xp;rw[h];rfl
 ·unfold xp;rw[h];exact j0w w'
theorem jBn (w:World) (n B:Nat) (h:n≤281474976710656) (hB:B≤w.heap.size):∃ w',(Instr.makeSlice 25 (.int .i64 0) (.int .i64 n)).run Tryz.prog w=.ok (.slice (some ⟨w.heap.size,0,none⟩) 0 n) w'∧w'.ownsRow B 5 1 (.slice (some ⟨w.heap.size,0,none⟩) 0 n) 0 []∧w.grownBy w' none:=by
 obtain ⟨i0,hi,hz0,hz1,hz2⟩:=info_parts qe;exact run_make_own (P:=Tryz.prog) w B 25 5 i0 _ 1 Tryz.underlying25 hi hz0 hz1 .i64 .i64 n (by rw[hz2];omega) (by unfold maxLen;omega) hB
theorem j5h (v:Int) (p:Pk) (s:Sl) (w:World) (hp:p.At s w) (hF:Fit p) (hT:Tabs w) (hcn:s.ca=none→s.cc=0) :
  Calls Tryz.prog 5 #[.int .i64 v,p.val s] w λe w'=>∃ u,e=.returned u∧j9i v p w u w'∧Kept No w w':=by
 let RR:Ending→World→Prop:=λe w'=>∃ u,e=.returned u∧j9i v p w u w'∧Kept No w w'
 go_enter Tryz.func5,Tryz.ntmps5
 generalize hA:({tmps:=_,defers:=[]}:Act)=A;have F:Fr A 33 [(1,(Pk.val p s)),(0,(.int .i64 v))]:=by rw[← hA];exact (Fr.cons (i:=1) (v:=(Pk.val p s)) (Fr.cons (i:=0) (v:=(.int .i64 v)) (Fr.nil0 rfl rfl) rfl) rfl)
 clear hA;have H:=Hp.start w;refine sg λK1 hK1=>?_;refine jj (c:=(Pk.cells p s)) (t:=36) F H rfl (qW rfl (F.e rfl) (qX _ _)) ?_;clear F A;intro b2 W A hk hN H9 F;clear H;have H:=H9;clear H9;clear hk hN
 iterate 2 (refine zd ?_;intro A F)
 refine nn (hK1 _ _) ?_;refine sg λK3 hK3=>?_;refine zd ?_;intro A F;refine j7 F rfl (jA rfl (F.e rfl) (jE ((Pk.cells p s)) rfl (jY _) (jQ _) (λi=>H.cs 0 rfl i))) ?_;intro A F;refine jf F H rfl (j6 rfl rfl (j0 (F.e rfl) (j0 (F.e rfl) j9)) jKo) (j80 v p s _ (hp.kept H.k) hF (hT.kept H.k)) ?_;clear F H A;intro W A hk H F;clear hk;refine zd ?_;intro A F;refine nn (hK3 _ _) ?_;refine wp_seq_k λK5 hK5=>?_;refine sg λK6 hK6=>?_;refine zd ?_;intro A F;refine zb (jx (i:=xU v p) (j:=0)) ?_;intro A F;refine nn (hK6 _ _) ?_;refine zc (λhb7=>?_) (λhb7=>?_)
 ·skip
  refine sg λK8 hK8=>?_
  iterate 2 (refine zd ?_;intro A F)
  refine nn (hK8 _ _) ?_;refine jH ?_;refine (show bodyPost _ Tryz.f5 RR Exit.ret _ _ from zr2 ?_);exact ⟨_,rfl,jFi (jK0 hb7),H.k⟩
 refine wp_skip (hK5 _ _ ?_);refine sg λK9 hK9=>?_
 iterate 2 (refine zd ?_;intro A F)
 have hR:=zL (j9c hb7);have hsz:xU v p≤300000000:=by have:=hR.rest;have:=xo (qD v p);unfold xU;split<;>omega
 have hfl:=jDx hR;have hk1:=hR.k1;have hk2:=hR.k2;have hv:=hR.hv;obtain ⟨W9,hr9,hO,hg9⟩:=jBn W (xU v p) w.heap.size (by omega) H.size;have hk9:Kept No W W9:=(Kept.refl No W).grown hg9 (by simp);obtain ⟨bb,hbb⟩:∃ b,b=W.heap.size:=⟨_,rfl⟩;rw[← hbb]at hr9 hO;refine j7 (v:=.slice (some ⟨bb,0,none⟩) 0 (xU v p)) F rfl (j8k rfl jD (F.e rfl) hr9) ?_;intro A F;replace H:=H.kept hk9;clear hr9 hg9 hk9 hbb;refine j7 (v:=(.agg #[(.int .i64 v),(.slice ((some ⟨bb,0,none⟩)) 0 ((xU v p)))])) F rfl (jh rfl (j4 (F.e rfl) (j4 (F.e rfl) qB)) (by kernel_rfl)) ?_;intro A F;refine jj (c:=#[(.int .i64 0),(.slice none 0 0)]) (t:=57) F H rfl (jq rfl (jN0 _)) ?_;clear F A;intro b10 W A hk hN H9 F;clear H;have H:=H9;clear H9;replace hO:=j8 hO hk;clear hk hN;obtain ⟨W9,hr,hB,hk⟩:=jC (P:=Tryz.prog) (S:=57) (c:=#[(.int .i64 v),(.slice ((some ⟨bb,0,none⟩)) 0 ((xU v p)))]) _ (H.b.at_ (j:=0) rfl).1 (jOk _) rfl (by simp[Value.oneCell']);replace hO:=jM hO (H.b.at_ (j:=0) rfl).1 (show 57≠5 by decide) hk;refine q9 (jJ rfl (F.e rfl) (F.e rfl) hr) ?_;clear hr;replace H:Hp _ _ [_,_]:=Hp.turn [] H hk hB;clear hk hB;refine nn (hK9 _ _) ?_;refine wp_seq_k λK11 hK11=>?_;have hfB:=H.b.at_ (j:=0) rfl;have hZ:FmK w W9 b10 v 0 [] W9:=Fm.start ⟨_,_,hfB.1,hO,hfB.2,Nat.zero_le _⟩;replace H:=H.tl;clear hfB hO;obtain ⟨f,hff⟩:∃ f,f=b10:=⟨_,rfl⟩;rw[← hff]at F hZ;obtain ⟨w1,hZ⟩:∃ w1,FmK w w1 f v 0 [] W9:=⟨_,hZ⟩
 clear hff;refine wp_region_held_drew (S:=λwx=>Hp _ wx _) (by kernel_rfl) H.drew (λH9=>?_);clear H;have H:=H9;clear H9;replace hZ:=hZ.no (Kept.refl No _).drew;generalize World.drew _=W at *;refine td 0 ?_;intro A F;refine td 1 ?_;intro A F;refine jG (v:=(.int .u8 ((p.kind.toNat:Int)))) (i:=2) F rfl rfl (by kernel_rfl) (λ_ _ _ h=>h) (H) (λwz H=>(vZ rfl (F.e rfl) (jLh p.kind _ (by omega) (by omega)))) ?_;intro A F;refine jG (i:=3) F rfl rfl (by kernel_rfl) (λ_ _ _ h=>h) (H) (λwz H=>(jF rfl jD (F.e rfl) (j3o (jn (by omega) (by omega))))) ?_;intro A F;refine jG (i:=4) F rfl rfl (by kernel_rfl) (λ_ _ _ h=>h) (H) (λwz H=>(jA rfl (F.e rfl) (jE ((Pk.cells p s)) rfl (jY _) (jQ _) (λi=>H.cs 0 rfl i)))) ?_;intro A F;refine jO (i:=5) (by kernel_rfl) (jZ (i:=5) F rfl rfl (j6 rfl rfl (j0 (F.e rfl) j9) jKp) (j7i v p s _ hR) (λ_ hk=>(H.kept hk)) ?_);clear F A;intro W A hk _ F;replace H:=H.kept hk;replace hZ:=hZ.no hk;clear hk;refine jG (i:=6) F rfl rfl (by kernel_rfl) (λ_ _ _ h=>h) (H) (λwz H=>(jF rfl (F.e rfl) (F.e rfl) (jd (jn (by omega) (by omega))))) ?_;intro A F;refine jO (i:=7) (by kernel_rfl) (jGp (i:=7) (FmP w _ f v (0+1) ([]++by1 (16*p.kind.toNat+qN p))) F rfl rfl (j6 rfl rfl (j0 (F.e rfl) (j0 (F.e rfl) j9)) j5q) (j02 w _ f v _ _ ⟨H.k,trivial⟩ hZ.m (16*p.kind.toNat+qN p) (by omega) (by omega)) (λ_ _ h=>H.formed hZ h.2 (fa1 ⟨(show 36≠5 by decide),(show 36≠57 by decide)⟩ ft0)) (λ_ H=>H) ?_);clear F H A;intro vv W A hR H F;obtain ⟨rfl,hZ9⟩:=hR;replace hZ:=hZ.step hZ9;clear hZ9;refine wpAnyH_done (by kernel_rfl) ?_ _;refine hK11 _ _ ?_;refine sg λK14 hK14=>?_;refine zd ?_;intro A F;refine j7 F rfl (jA rfl (F.e rfl) (jE ((Pk.cells p s)) rfl (jY _) (jQ _) (λi=>H.cs 0 rfl i))) ?_;intro A F;refine jf F H rfl (j6 rfl rfl (j0 (F.e rfl) (j0 (F.e rfl) j9)) jCr) (j2f v p s _ (hp.kept H.k) hF (hT.kept H.k) hR.filt) ?_;clear F H A;intro W A hk H F;replace hZ:=hZ.no hk;clear hk;refine jT (FmP w _ f v ((0+1)+1) (([]++by1 (16*p.kind.toNat+qN p))++vD (qD v p))) F rfl (j6 rfl rfl (j0 (F.e rfl) (j0 (F.e rfl) j9)) jNa) (jAg w _ f v _ _ ⟨H.k,trivial⟩ hZ.m (qD v p) hR.rest (by omega)) (λ_ _ h=>H.formed hZ h.2 (fa1 ⟨(show 36≠5 by decide),(show 36≠57 by decide)⟩ ft0)) ?_;clear F H A;intro vv W A hR H F;obtain ⟨rfl,hZ9⟩:=hR;replace hZ:=hZ.step hZ9;clear hZ9;refine nn (hK14 _ _) ?_;refine sg λK17 hK17=>?_;refine j7 F rfl (jA rfl (F.e rfl) (jE ((Pk.cells p s)) rfl (jY _) (jQ _) (λi=>H.cs 0 rfl i))) ?_;intro A F;refine jT (FmP w _ f v (((0+1)+1)+40000) ((([]++by1 (16*p.kind.toNat+qN p))++vD (qD v p))++xE v p)) F rfl (j6 rfl rfl (j0 (F.e rfl) (j0 (F.e rfl) j9)) jNb) (j9y w _ f v _ _ ⟨H.k,trivial⟩ hZ.m p s hp hF hR hT hcn (by omega)) (λ_ _ h=>H.formed hZ h.2 (fa1 ⟨(show 36≠5 by decide),(show 36≠57 by decide)⟩ ft0)) ?_;clear F H A;intro vv W A hR H F;obtain ⟨rfl,hZ9⟩:=hR;replace hZ:=hZ.step hZ9;clear hZ9;refine nn (hK17 _ _) ?_;refine wp_seq_k λK19 hK19=>?_;replace hZ:=hZ.is (l':=jFh v p) (k':=100000) (by unfold jFh;rw[j2h v p hF.wf];simp only[List.nil_append,List.append_assoc]) (by omega);obtain ⟨⟨a,c,hB,hO,hf,hl⟩,-⟩:=hZ;refine jB ?_;refine j8s F rfl rfl (F.e rfl) (jCn _ _ _) (j16 _) (hB.cell 1) ?_;intro A F
 iterate 2 (refine zd ?_;intro A F)
 refine nn (hK19 _ _) ?_;refine jH ?_;refine (show bodyPost _ Tryz.f5 RR Exit.ret _ _ from zr2 ?_);exact ⟨_,rfl,by unfold j9i xp;rw[if_pos (j9c hb7),if_pos (j9c hb7)];exact ⟨a,c,rfl,hO⟩,H.k⟩
theorem jP7:FN Tryz.prog 5:=jr Tryz.func5 (by kernel_rfl) rfl
def tq8:Pk:={zk 3 with qos:=1,topic:=⟨#[97]⟩,id:=7,load:=⟨#[120]⟩}
theorem jCb (w:World):tq8.At ts w:=⟨.nil _ _,.nil _ _,.nil _ _,.nil _ _⟩
theorem j9f:Fit tq8:=⟨⟨by decide,by decide,by decide,by decide⟩,⟨by simp[tq8,zk],by simp[tq8,zk]⟩,⟨by decide,by decide,by decide,by decide,by decide,by decide,by decide,by decide,by decide,by decide,by decide,by simp[tq8,zk],by simp[tq8,zk],by simp[tq8,zk]⟩,by decide,by decide,by decide,by decide,by decide,by simp[tq8,zk]⟩
theorem j85:qj 4 tq8=true:=by decide +kernel
theorem jK7:xp 4 tq8=[50,6,0,1,97,0,7,120]:=by kernel_rfl
theorem jHo:xU 4 tq8=8:=by kernel_rfl
theorem jHn:qD 4 tq8=6:=by kernel_rfl
theorem jF1:qN tq8=2:=by kernel_rfl
theorem jJ6 {P:Program} {ops:Array Oper} {Q:Exit→Act→World→Prop} {a:Act} {w w':World} {N n i fuel:Nat} {L:List (Nat × Value)} {v:Value} {ty:TypeId} {ps:String} {af:Array Edge} {op:Op} {gd:Nat × Bool} {md:Region.Mode} {S:World→Prop} {listed:Array Bool} (F:Fr a N L) (hn:Nat.blt n N=true) (hi:ops[i]?=some ⟨some n,op,ty,ps,af,some gd⟩)
  (hw:Region.wanted ⟨some n,op,ty,ps,af,some gd⟩ (yielded ops a.tmps)=true) (h:(execOp a.eval ⟨some n,op,ty,ps,af,some gd⟩).run P w=.ok (.value v) w') (hS:S w') (k:∀ a':Act,Fr a' N ((n,v) :: L)→wpAnyH P md ops Q S fuel (listed.setIfInBounds i true) a' w') :
  wpOp P ops Q i (λa' w'=>S w'∧wpAnyH P md ops Q S fuel (listed.setIfInBounds i true) a' w') a w:=by
 unfold wpOp;simp only[hi];rw[if_pos hw];left;unfold Oper.wp;rw[h];exact ⟨hS,k _ (F.put hn v)⟩
def eN (v:Int) (p:Pk):Nat:=if qj v p=true then 0 else 1
def jL6 (v:Int) (p:Pk) (u:Value) (w:World):Prop:=∃ a c,u=.tuple #[.slice a (xp v p).length c,.int .i64 (eN v p:Int)]∧Row w a (B8 (xp v p))∧(a=none→c=0)
theorem jN5 {v:Int} {p:Pk} {w:World} {f:Nat} {args:Array Value} (h:Calls Tryz.prog f args w λe w'=>∃ u,e=.returned u∧j9i v p w u w'∧Kept No w w'):Calls Tryz.prog f args w λe w'=>∃ u,e=.returned u∧jL6 v p u w'∧Kept No w w':=by
 refine h.mono λe w' ⟨u,h1,⟨a,c,h2,h3⟩,h4⟩=>⟨u,h1,⟨a,c,?_,(ju h3).1,λe=>((ju h3).2 e).2⟩,h4⟩
 rw[h2];unfold eN
 split<;>rfl
theorem jOx {w:World} {a:Option Addr} {l:List UInt8} {c:Nat} (h:Row w a (B8 l)) (hn:a=none→c=0):(convert 25 9 (.slice a l.length c)).run Tryz.prog w=.ok (.string ⟨l.toArray⟩) w:=jHj (Lib.hid rfl) h c hn
theorem jHf {v:Int} {p:Pk} (hw:Wf p):xU v p=(xp v p).length:=by
 unfold xU xp
 split
 ·unfold jFh
  rw[List.length_append,List.length_append,j3d,j2h v p hw]
 ·rfl
theorem jF0 (w:World) (hT:Tabs w):Calls Tryz.prog 7 #[] w λe w'=>e=.returned (.bool true)∧Kept No w w':=by
 let RR:Ending→World→Prop:=λe w'=>e=.returned (.bool true)∧Kept No w w'
 go_enter Tryz.func7,Tryz.ntmps7
 generalize hA:({tmps:=_,defers:=[]}:Act)=A;have F:Fr A 32 []:=by rw[← hA];exact (Fr.nil0 rfl rfl)
 clear hA;have H:=Hp.start w;refine sg λK1 hK1=>?_;refine zd ?_;intro A F;refine nn (hK1 _ _) ?_;refine sg λK2 hK2=>?_;refine j7 (v:=(Pk.val tq8 ts)) F rfl (jh rfl (j4 jD (j4 jD (j4 jD (j4 jD (j4 jD qB))))) (by kernel_rfl)) ?_;intro A F;refine jj (c:=jm) (t:=36) F H rfl (jq rfl (j07 _)) ?_;clear F A;intro b3 W A hk hN H9 F;clear H;have H:=H9;clear H9;clear hk hN;obtain ⟨W9,hr,hB,hk⟩:=jC (P:=Tryz.prog) (S:=36) (c:=(Pk.cells tq8 ts)) _ (H.b.at_ (j:=0) rfl).1 (jQ _) rfl (ja _ _);refine q9 (jJ rfl (F.e rfl) (F.e rfl) hr) ?_;clear hr;replace H:Hp _ _ [_]:=Hp.turn [] H hk hB;clear hk hB;refine nn (hK2 _ _) ?_;refine sg λK4 hK4=>?_;refine j7 F rfl (jA rfl (F.e rfl) (jE ((Pk.cells tq8 ts)) rfl (jY _) (jQ _) (λi=>H.cs 0 rfl i))) ?_;intro A F;refine va (R:=jL6 4 tq8) F H rfl (j6 rfl rfl (j0 jD (j0 (F.e rfl) j9)) jP7) (jN5 (j5h 4 tq8 ts _ (jCb _) j9f (hT.kept H.k) (λ_=>rfl))) ?_;clear F H A;intro vv W A hR hk H F;obtain ⟨ae5,ce5,rfl,hRE5,hNE5⟩:=hR;clear hk;obtain ⟨wE5,KE5,hRE5⟩:∃ w1,Kept No w1 W∧Row w1 ae5 (B8 (xp 4 tq8)):=⟨W,Kept.refl No W,hRE5⟩
 iterate 5 (refine zd ?_;intro A F)
 refine nn (hK4 _ _) ?_;refine sg λK6 hK6=>?_;refine zd ?_;intro A F;refine zb (jx (i:=eN 4 tq8) (j:=0)) ?_;intro A F;refine zd ?_;intro A F;refine zg ?_;intro A F;refine qQ F rfl (qI F rfl rfl rfl) (λhG=>(vZ rfl (F.o rfl hG) (jOx (hRE5.keptNo KE5) hNE5))) ?_;intro A F;refine zgb (vJ) ?_;intro A F;refine j7 F rfl (jI rfl (F.e rfl) (λhx=>(F.o rfl hx)) rfl) ?_;intro A F;refine zd ?_;intro A F;refine qQ F rfl (qI F rfl rfl rfl) (λhG=>(jA rfl (F.e rfl) (jE ((Pk.cells tq8 ts)) rfl (jY _) (jQ _) (λi=>H.cs 0 rfl i)))) ?_;intro A F;refine qU F H rfl (qI F rfl rfl rfl) (λhG=>(j6 rfl rfl (j0 jD (j0 (F.o rfl hG) j9)) jKo)) (λhG=>j80 4 tq8 ts _ (jCb _) j9f (hT.kept H.k)) ?_;clear F H A;intro W A hk H F;replace KE5:=KE5.trans hk;clear hk;refine zgb (jx (i:=xU 4 tq8) (j:=8)) ?_;intro A F;refine j7 F rfl (jI rfl (F.e rfl) (λhx=>(F.o rfl hx)) rfl) ?_;intro A F;refine zd ?_;intro A F;refine qQ F rfl (qI F rfl rfl rfl) (λhG=>(jA rfl (F.e rfl) (jE ((Pk.cells tq8 ts)) rfl (jY _) (jQ _) (λi=>H.cs 0 rfl i)))) ?_;intro A F;refine qU F H rfl (qI F rfl rfl rfl) (λhG=>(j6 rfl rfl (j0 (F.o rfl hG) j9) jKp)) (λhG=>j7i 4 tq8 ts _ (zL j85)) ?_;clear F H A;intro W A hk H F;replace KE5:=KE5.trans hk;clear hk;refine zgb (jx (i:=qN tq8) (j:=2)) ?_;intro A F;refine j7 F rfl (jI rfl (F.e rfl) (λhx=>(F.o rfl hx)) rfl) ?_;intro A F;refine zd ?_;intro A F;refine qQ F rfl (qI F rfl rfl rfl) (λhG=>(jA rfl (F.e rfl) (jE ((Pk.cells tq8 ts)) rfl (jY _) (jQ _) (λi=>H.cs 0 rfl i)))) ?_;intro A F;refine qU F H rfl (qI F rfl rfl rfl) (λhG=>(j6 rfl rfl (j0 jD (j0 (F.o rfl hG) j9)) jCr)) (λhG=>j2f 4 tq8 ts _ (jCb _) j9f (hT.kept H.k) (by simp[tq8,zk])) ?_;clear F H A;intro W A hk H F;replace KE5:=KE5.trans hk;clear hk;refine zgb (jx (i:=qD 4 tq8) (j:=6)) ?_;intro A F;refine j7 F rfl (jI rfl (F.e rfl) (λhx=>(F.o rfl hx)) rfl) ?_;intro A F;refine zd ?_;intro A F;refine nn (hK6 _ _) ?_;refine jH ?_;refine (show bodyPost _ Tryz.f7 RR Exit.ret _ _ from zr ?_);exact ⟨congrArg (λb=>Ending.returned (.bool b)) (by rw[jK7,jHo,jHn,jF1];unfold eN;rw[j85];decide),H.k⟩
end Go.Proofs.YtkochkhfbhjicaaGreatDoor
