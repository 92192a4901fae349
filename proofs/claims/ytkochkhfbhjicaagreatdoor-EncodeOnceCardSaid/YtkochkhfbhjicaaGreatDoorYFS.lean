import Derived.Test.YtkochkhfbhjicaaGreatDoorYF8
import Derived.Test.YtkochkhfbhjicaaGreatDoorYF9
import Derived.Test.YtkochkhfbhjicaaGreatDoorYFR
import Derived.Test.YtkochkhfbhjicaaGreatDoorYFJ
namespace Go.Proofs.YtkochkhfbhjicaaGreatDoor
set_option maxHeartbeats 8000000
open Go.RowKit
set_option linter.unusedVariables false
set_option linter.unusedSimpArgs false
set_option maxRecDepth 100000
def fxP (k:Int) (p:Pr):Pr:=⟨qc p.id k,fxN (qc p.id k) p.n,fxA (qc p.id k) p.a,fxB (qc p.id k) p.b⟩
def ve (k:Int):List Pr→List Pr→Option (List Pr)
 | out,[]=>some out
 | out,p :: t=>if (fxP k p).id=0 then none else if (qg out (fxP k p).id).isSome&&!xH (fxP k p).id k then ve k out t else ve k (out++[fxP k p]) t
def m21:Pr:=⟨21,0,vX ⟨#[109]⟩,⟨#[]⟩⟩
def j1w (out:List Pr):List Pr:=if (qg out 22).isSome&&!(qg out 21).isSome then out++[m21] else out
def qP (L:List Pr) (k:Int):List Pr:=match ve k [] (L.take 8) with|none=>[]|some out=>jX (j1w out)
structure j52 (k:Int) (out:List Pr):Prop where
 val:∀ p∈out,j06 p.id p.n p.a p.b=true∧xP p.id k=true∧p.id<256∧p.n<4294967296∧p.a.size≤32∧p.b.size≤32
 once:∀ i,2≤(idf i out).length→xH i k=true
theorem jDz (q:Nat) (a:ByteArray):(fxA q a).size≤32:=by
 unfold fxA;have h1:=zE a;have h2:=j9t a;have h3:=(vg a).size.2
 repeat' split
 all_goals first|omega|(show (⟨#[]⟩:ByteArray).size≤32;decide)
theorem jE0 (q:Nat) (b:ByteArray):(fxB q b).size≤32:=by
 unfold fxB;have h1:=zE b
 split
 ·omega
 ·show (⟨#[]⟩:ByteArray).size≤32
  decide
theorem jE1 (q n:Nat) (h:n<4294967296):fxN q n<4294967296:=by
 unfold fxN
 repeat' split
 all_goals omega
theorem xd:∀ (L:List Pr) (i:Nat),(qg L i).isSome=true↔0<(idf i L).length
 | [],i=>by simp[qg,idf]
 | p :: t,i=>by
  by_cases h:p.id=i
  ·rw[vU h]
   simp[qg,h]
  ·rw[j0t h,← xd t i]
   simp[qg,h]
theorem jLv {k:Int} {p:Pr} (h:(fxP k p).id≠0):qc p.id k∈vA k:=by
 by_cases h0:vA k=[]
 ·exfalso
  apply h;show qc p.id k=0;unfold qc;rw[h0]
  rfl
 ·exact jGj h0
theorem jGk {k:Int} {p:Pr} (hn:p.n<4294967296) (h:(fxP k p).id≠0):j06 (fxP k p).id (fxP k p).n (fxP k p).a (fxP k p).b=true∧xP (fxP k p).id k=true∧(fxP k p).id<256∧(fxP k p).n<4294967296∧(fxP k p).a.size≤32∧(fxP k p).b.size≤32:=by
 obtain ⟨h1,h2,h3,h4,h5⟩:=xJ (jLv h);exact ⟨jA2 _ _ _ _ hn h2 h3,h5,h2,jE1 _ _ hn,jDz _ _,jE0 _ _⟩
theorem j2p {k:Int}:∀ (L out R:List Pr),(∀ p∈L,p.n<4294967296)→j52 k out→ve k out L=some R→j52 k R∧R.length≤out.length+L.length
 | [],out,R,_,ho,h=>by
  injection h with h;subst h;exact ⟨ho,by simp⟩
 | p :: t,out,R,hw,ho,h=>by
  unfold ve at h
  by_cases h0:(fxP k p).id=0
  ·rw[if_pos h0]at h;cases h
  rw[if_neg h0]at h
  by_cases h1:((qg out (fxP k p).id).isSome&&!xH (fxP k p).id k)=true
  ·rw[if_pos h1]at h
   obtain ⟨q1,q2⟩:=j2p t out R (λx hx=>hw x (by simp[hx])) ho h;exact ⟨q1,by simp;omega⟩
  ·rw[if_neg h1]at h
   have hp:=jGk (k:=k) (hw p (by simp)) h0
   obtain ⟨q1,q2⟩:=j2p t (out++[fxP k p]) R (λx hx=>hw x (by simp[hx])) ⟨λx hx=>by
    rcases List.mem_append.1 hx with hx|hx
    ·exact ho.val x hx
    ·rw[List.mem_singleton.1 hx];exact hp,λi hi=>by
    rw[vw,List.length_append]at hi
    by_cases he:(fxP k p).id=i
    ·by_cases ho2:xH i k=true
     ·exact ho2
     ·exfalso
      apply h1;rw[he,aE9];refine ⟨(xd out i).2 ?_,by simpa using ho2⟩;rw[vU he,show idf i ([]:List Pr)=[] from rfl]at hi;simp at hi;omega
    ·rw[j0t he,show idf i ([]:List Pr)=[] from rfl]at hi
     exact ho.once i (by simpa using hi)⟩ h
   exact ⟨q1,by simp at q2 ⊢;omega⟩
theorem jO4:∀ (k:Int),xP 22 k=true→xP 21 k=true:=by
 intro k h;unfold xP at h ⊢;have e1:zT 22=zT 21:=by decide
 rwa [e1]at h
theorem jCf {k:Int} {out:List Pr} (h:j52 k out):j52 k (j1w out)∧(j1w out).length≤out.length+1∧((qg (j1w out) 21).isSome||!(qg (j1w out) 22).isSome)=true:=by
 unfold j1w
 by_cases hc:((qg out 22).isSome&&!(qg out 21).isSome)=true
 ·rw[if_pos hc]
  rw[aE9]at hc;have hpos:=(xd out 22).1 hc.1
  obtain ⟨x,hx⟩:∃ x,x∈idf 22 out:=by
   cases hh:idf 22 out with
   | nil=>rw[hh]at hpos;simp at hpos
   | cons x t=>exact ⟨x,by simp⟩
  have hxo:x∈out:=(List.mem_filter.1 hx).1;have hxi:x.id=22:=by simpa using (List.mem_filter.1 hx).2
  have hf:=(h.val x hxo).2.1;rw[hxi]at hf;have h21:(qg out 21).isSome=false:=by simpa using hc.2
  have hz:(idf 21 out).length=0:=by
   rcases Nat.eq_zero_or_pos (idf 21 out).length with q|q
   ·exact q
   ·rw[(xd out 21).2 q]at h21;cases h21
  refine ⟨⟨λp hp=>?_,λi hi=>?_⟩,by simp,?_⟩
  ·rcases List.mem_append.1 hp with hp|hp
   ·exact h.val p hp
   ·rw[List.mem_singleton.1 hp]
    refine ⟨?_,jO4 k hf,by decide,by decide,by have:=zE ⟨#[109]⟩;show (vX ⟨#[109]⟩).size≤32;omega,by show (⟨#[]⟩:ByteArray).size≤32;decide⟩;exact jA2 21 0 ⟨#[109]⟩ ⟨#[]⟩ (by decide) (by decide) (by decide)
  ·rw[vw,List.length_append]at hi
   by_cases he:i=21
   ·subst he
    rw[hz,vU (i:=21) (p:=m21) (L:=[]) rfl,show idf 21 ([]:List Pr)=[] from rfl]at hi;simp at hi
   ·rw[j0t (p:=m21) (λe=>he e.symm),show idf i ([]:List Pr)=[] from rfl]at hi
    exact h.once i (by simpa using hi)
  ·rw[(xd (out++[m21]) 21).2 (by rw[vw,List.length_append,vU (i:=21) (p:=m21) (L:=[]) rfl];simp only[List.length_cons];omega)]
   rfl
 ·rw[if_neg hc]
  refine ⟨h,by omega,?_⟩;cases h1:(qg out 22).isSome<;>cases h2:(qg out 21).isSome<;>rw[h1,h2]at hc<;>simp at hc ⊢
theorem j5t {L M:List Pr} (h:Ste L M) (i:Nat):(qg L i).isSome=(qg M i).isSome:=by
 rw[Bool.eq_iff_iff,xd,xd,h i]
theorem j8f {k:Int}:∀ (L:List Pr) (q:Option Nat),Srt L→(∀ p∈L,j06 p.id p.n p.a p.b=true∧xP p.id k=true)→(∀ i,2≤(idf i L).length→xH i k=true) →
  (∀ x,q=some x→∀ p∈L,x<p.id∨(x=p.id∧xH p.id k=true))→j09 k q L=true
 | [],_,_,_,_,_=>rfl
 | p :: t,q,hs,hv,ho,hq=>by
  have hp:=hv p (by simp)
  have hf:jJ1 k q p.id=true:=by
   cases q with
   | none=>rfl
   | some x =>
    show vf k x p.id=true;unfold vf;rcases hq x rfl p (by simp) with h|⟨h1,h2⟩
    ·simp[h]
    ·simp[h1,h2]
  rw[j09,hp.1,hp.2,hf];show j09 k (some p.id) t=true;have hs2:=List.pairwise_cons.1 hs;refine j8f t (some p.id) hs2.2 (λx hx=>hv x (by simp[hx])) (λi hi=>ho i ?_) (λx hx z hz=>?_)
  ·by_cases e:p.id=i
   ·rw[vU e];simp;omega
   ·rw[j0t e];exact hi
  ·injection hx with hx
   subst hx;have hle:=hs2.1 z hz
   by_cases e:p.id=z.id
   ·right
    refine ⟨e,?_⟩;rw[← e];refine ho p.id ?_;rw[vU rfl]
    have:z∈idf p.id t:=List.mem_filter.2 ⟨hz,by simp[e]⟩
    have:=List.length_pos_of_mem this
    simp;omega
   ·left;omega
theorem j8n (L:List Pr) (k:Int) (hw:∀ p∈L,p.n<4294967296):ql k (qP L k)=true∧(qP L k).length≤9∧Srt (qP L k)∧(∀ p∈qP L k,p.ok=true∧p.id<256∧p.n<4294967296∧p.a.size≤32∧p.b.size≤32):=by
 unfold qP;rcases hG:ve k [] (L.take 8) with _|out
 ·refine ⟨by simp[ql,j09,qg],by simp,Srt.nil,by simp⟩
 ·dsimp only
  obtain ⟨h1,h2⟩:=j2p (L.take 8) [] out (λp hp=>hw p (List.mem_of_mem_take hp)) ⟨by simp,by simp[idf]⟩ hG;obtain ⟨g1,g2,g3⟩:=jCf h1;have hlen:out.length≤8:=by have:=List.length_take_le 8 L;simp at h2;omega
  have hste:=xW (j1w out);refine ⟨?_,by rw[je];omega,xV _,λp hp=>?_⟩
  ·unfold ql
   rw[je,decide_eq_true (by omega),← j5t hste 21,← j5t hste 22,g3,j8f (jX (j1w out)) none (xV _) (λp hp=>by have:=g1.val p (zi.1 hp);exact ⟨this.1,this.2.1⟩) (λi hi=>g1.once i (by rw[hste i];exact hi)) (λx hx=>by cases hx)]
   rfl
  ·have:=g1.val p (zi.1 hp)
   refine ⟨?_,this.2.2⟩;have h9:=this.1;unfold j06 at h9;rw[aE9]at h9;exact h9.1
def blR (l:List Nat):List UInt8:=l.map UInt8.ofNat
theorem jCj (c:Nat) (h:c<256):B8 (blR [c])=[.int .u8 c]:=by
 simp[blR,B8,UInt8.toNat_ofNat_of_lt' (show c<UInt8.size from h)]
theorem j57 (l m:List Nat):blR (l++m)=blR l++blR m:=by simp[blR]
def Fl (l:List (Nat × Nat)) (j:Nat):List UInt8:=blR ((List.range j).filter (qp l))
theorem jL8 (l:List (Nat × Nat)) (j:Nat) (h:qp l j=true):Fl l (j+1)=Fl l j++blR [j]:=by
 unfold Fl;rw[List.range_succ,List.filter_append,j57];simp[h]
theorem jMr (l:List (Nat × Nat)) (j:Nat) (h:qp l j=false):Fl l (j+1)=Fl l j:=by
 unfold Fl;rw[List.range_succ,List.filter_append,j57];simp[h,blR]
def jKf (w:World) (l:List UInt8) (e:Ending) (w':World):Prop :=
 ∃ v,e=.returned v∧w'.ownsRow w.heap.size 5 1 v l.length (B8 l)∧Kept No w w'
theorem jGm {w w':World} {v:Value} {l:List UInt8} {n:Nat} {xs:List Value} (h:w'.ownsRow w.heap.size 5 1 v n xs) (hn:n=l.length) (hx:xs=B8 l) (hk:Kept No w w'):jKf w l (.returned v) w':=by
 subst hn hx;exact ⟨v,rfl,h,hk⟩
theorem j45 {w w':World} {base:Nat} {e:TypeId} {size n:Nat} {v:Value} {xs:List Value} (h:w.ownsRow base e size v n xs) (hk:Kept No w w'):w'.ownsRow base e size v n xs:=by
 refine ⟨h.1,?_⟩;rcases h.2 with hn|⟨g,cap,cur,hv,hb,hg,rest⟩
 ·exact .inl hn
 ·exact .inr ⟨g,cap,cur,hv,hb,(hk.block g (Array.getElem?_eq_some_iff.1 hg).1 (λf=>f)).trans hg,rest⟩
set_option maxRecDepth 100000 in
theorem jH8 (v k:Int) (w:World) :
  Calls Tryz.prog 26 #[.int .i64 v,.int .i64 k] w (jKf w (blR (vp (sp v k)))):=by
 obtain ⟨i0,hi,hz0,hz1,hz2⟩:=info_parts qe;have cK:=λc wx (hc:c<256)=>jBx v k c wx hc
 have hA:Fl (sp v k) 256=blR (vp (sp v k)):=by unfold Fl;rw[jB3]
 rw[← hA];clear hA;generalize sp v k=l at *;have HK:=Lib.hid cK;clear cK
 go_enter Tryz.func26,Tryz.ntmps26
 go_wp2
 go_loopw [5,6] (λs i wr=>∃ (j:Nat) (p:List UInt8),i=.int .i64 j∧j≤256∧Hid (p=Fl l j)∧p.length≤j∧wr.ownsRow w.heap.size 5 1 s p.length (B8 p)∧Kept No w wr) (λ_ i _=>256 - (intOf i).toNat)
 case atStart=>exact ⟨0,[],rfl,by omega,Lib.hid rfl,by simp,World.ownsRow_nil _ _ _ _,Kept.refl _ _⟩
 case round =>
  obtain ⟨j,p,rfl,hj,HP,hpl,hown,hk⟩:=hrel;have hsz:=hk.size
  by_cases hlt:j<256
  ·have hjI:(j:Int)<256:=by omega
   rcases hY:qp l j with _|_
   ·have HC:Hid (∀ wx,Calls Tryz.prog 50 #[.int .i64 v,.int .i64 k,.int .u8 j] wx λe w'=>e=.returned (.bool false)∧Kept No wx w'):=Lib.hid (λwx=>by have:=HK.out j wx hlt;rw[hY]at this;exact this)
    have HN:=Lib.hid (jMr l j hY);clear hY
    go_wp2_with (go_at_call 50;refine (HC.out _).mono ?_;rintro e w1 ⟨rfl,hk1⟩)
    go_roundw
    case rel=>exact ⟨j+1,p,by go_num,by omega,Lib.hid (by rw[HN.out,HP.out]),by omega,j45 hown hk1,hk.trans hk1⟩
    case measure=>simp[intOf];omega
   ·have HC:Hid (∀ wx,Calls Tryz.prog 50 #[.int .i64 v,.int .i64 k,.int .u8 j] wx λe w'=>e=.returned (.bool true)∧Kept No wx w'):=Lib.hid (λwx=>by have:=HK.out j wx hlt;rw[hY]at this;exact this)
    have HN:=Lib.hid (jL8 l j hY);clear hY
    go_wp2_with (first
     | (go_at_call 50;refine (HC.out _).mono ?_;rintro e w1 ⟨rfl,hk1⟩;have hown1:=j45 hown hk1)
     | (at_builtin;refine jv _ rfl _ _ _ rfl w.heap.size 5 i0 _ 1 Tryz.underlying25 hi hz0 hz1 hz2 rfl _ _ _ rfl (hown1.alloc _) (some ⟨w1.heap.size,0,none⟩) 1 1 (B8 (blR [j])) rfl ?c1 ?c2 (by simp) (vW _) ?c3 ?c4 ?c5 ?_;rotate_right;intro v2 w2 hown2 hg2 hv2))
    case c1=>rw[jCj j hlt];rfl
    case c2=>rw[jCj j hlt];exact .of_cells (qa w1 _ _ _ rfl)
    case c3=>unfold maxLen;omega
    case c4=>omega
    case c5=>have:=hk1.size;simp;omega
    go_roundw
    case rel=>exact ⟨j+1,p++blR [j],by go_num,by omega,Lib.hid (by rw[HN.out,HP.out]),by simp[blR];omega,by simpa [jt,blR] using hown2,((hk.trans hk1).alloc _).grown hg2 (vH hown1)⟩
    case measure=>simp[intOf];omega
  ·have hj6:j=256:=by omega
   go_wp2
   go_ret
   exact jGm hown (by rw[HP.out,hj6]) (by rw[HP.out,hj6]) hk
theorem j04 (a:Option Addr) (c:Nat) (L:List Pr) (x:Nat) (xi:Int) (hx:xi=x) (hl:L.length≤100000):∃ i n A B,∃ s,s=(qg L x).isSome∧∀ w,Row w a (PC L) →
  Calls Tryz.prog 13 #[.slice a L.length c,.int .u8 xi] w (λe w'=>e=.returned (.tuple #[.agg #[.int .u8 (i:Nat),.int .u32 (n:Nat),.string A,.string B],.bool s])∧Kept No w w') :=
 by
 subst hx;exact ⟨_,_,_,_,_,rfl,λw hr=>(j6j a c L x w hr hl).mono λe w' h=>⟨h.1,h.2⟩⟩
theorem xy (a:Option Addr) (c0:Nat) (M:List Pr) (w:World) (hr:Row w a (PC M)) (hn:a=none→M.length=0∧c0=0) (hl:M.length≤100000) :
  Calls Tryz.prog 14 #[.slice a M.length c0] w λe w'=>∃ a' c',e=.returned (.slice a' M.length c')∧w'.ownsRow w.heap.size 46 4 (.slice a' M.length c') M.length (PC (jX M))∧Kept No w w' :=
 (jEl a c0 M w hr hn hl).mono λe w' ⟨a',c',h1,h2,h3⟩=>by
  rw[je]at h1 h2;exact ⟨a',c',h1,h2,h3⟩
theorem jBe {k:Int} {L out:List Pr} {j:Nat} (h:j<L.length) (h8:j<8):ve k out ((L.take 8).drop j)=if (fxP k L[j]).id=0 then none else if (qg out (fxP k L[j]).id).isSome&&!xH (fxP k L[j]).id k then ve k out ((L.take 8).drop (j+1)) else ve k (out++[fxP k L[j]]) ((L.take 8).drop (j+1)):=by
 have e:(L.take 8).drop j=L[j] :: (L.take 8).drop (j+1):=by
  have h9:j<(L.take 8).length:=by rw[List.length_take];omega
  rw[List.drop_eq_getElem_cons h9,List.getElem_take]
 rw[e,ve]
theorem j7x (a:Option Addr) (c:Nat) (L:List Pr) (k:Int) (w:World) (hr:Row w a (PC L)) (hl:L.length≤9223372036854775807) (hw:∀ p∈L,p.id<256∧p.n<4294967296∧p.a.size≤9223372036854775807∧p.b.size≤9223372036854775807) :
  Calls Tryz.prog 12 #[.slice a L.length c,.int .i64 k] w (OwnP 46 w (qP L k)):=by
 obtain ⟨i0,hi,hz0,hz1,hz2⟩:=info_parts j2a;have HW:=Lib.hid hw;have HFa:Hid (ve k [] (L.take 8)=none→qP L k=[]):=Lib.hid (λh=>by unfold qP;rw[h]);have HF6:Hid (∀ out,ve k [] (L.take 8)=some out→qP L k=jX (j1w out)):=Lib.hid (λout h=>by unfold qP;rw[h]);generalize qP L k=RES at *;clear hw;have hlI:(L.length:Int)≤9223372036854775807:=by omega
 go_enter Tryz.func12,Tryz.ntmps12
 go_wp2
 go_loopw [5,6] (λs i wr=>∃ (j:Nat) (out:List Pr),i=.int .i64 j∧j≤L.length∧j≤8∧out.length≤j∧Hid (ve k [] (L.take 8)=ve k out ((L.take 8).drop j))∧wr.ownsRow w.heap.size 46 4 s out.length (PC out)∧Kept No w wr) (λ_ i _=>L.length - (intOf i).toNat)
 case atStart=>exact ⟨0,[],rfl,by omega,by omega,by simp,Lib.hid (by simp),World.ownsRow_nil _ _ _ _,Kept.refl _ _⟩
 case round =>
  obtain ⟨j,out,rfl,hj,hj8,hol,HG,hown,hk⟩:=hrel;obtain ⟨ao,co,rfl,hro,hno⟩:=j1f hown
  by_cases hlt:j<L.length
  ·have hltI:(j:Int)<(L.length:Int):=by omega
   by_cases h8:j<8
   ·have h8I:(j:Int)<8:=by omega
    have HST:=Lib.hid (jBe (k:=k) (out:=out) hlt h8);obtain ⟨b,off,rfl,hb,q0,q1,q2,q3⟩:=(hr.keptNo hk).prop hlt;have hx:=HW.out _ (List.getElem_mem hlt);generalize L[j]=x at *;obtain ⟨xi,xn,xa,xb⟩:=x;dsimp only at q0 q1 q2 q3 hx;have HFX:Hid (∀ wx,Calls Tryz.prog 27 #[.agg #[.int .u8 xi,.int .u32 xn,.string xa,.string xb],.int .i64 k] wx λe w'=>e=.returned (.agg #[.int .u8 (fxP k ⟨xi,xn,xa,xb⟩).id,.int .u32 (fxP k ⟨xi,xn,xa,xb⟩).n,.string (fxP k ⟨xi,xn,xa,xb⟩).a,.string (fxP k ⟨xi,xn,xa,xb⟩).b])∧Kept No wx w'):=Lib.hid (λwx=>jH9 xi xn xa xb k wx hx.1 hx.2.1 hx.2.2.1 hx.2.2.2)
    have HQ:Hid ((fxP k ⟨xi,xn,xa,xb⟩).id<256):=Lib.hid (by
     by_cases h0:(fxP k ⟨xi,xn,xa,xb⟩).id=0
     ·omega
     ·exact (jGk (k:=k) (p:=⟨xi,xn,xa,xb⟩) hx.2.1 h0).2.2.1)
    generalize fxP k ⟨xi,xn,xa,xb⟩=P9 at *;obtain ⟨q,N,A,B⟩:=P9;dsimp only at HFX HST HQ;clear hx
    go_wp2_with fail
    go_at_call 27
    refine (HFX.out wr).mono ?_;rintro e w2 ⟨rfl,hk2⟩;have hown2:=jU hown hk2;have hsz2:=hk2.size
    by_cases h0:q=0
    ·subst h0
     have HN:Hid (ve k [] (L.take 8)=none):=Lib.hid (by rw[HG.out,HST.out,if_pos rfl]);have HR:=Lib.hid (HFa.out HN.out);clear HST HG
     go_wp2
     go_ret
     rw[HR.out];exact ⟨none,0,rfl,World.ownsRow_nil _ _ _ _,(hk.trans hk2).alloc _⟩
    have h0I:((q:Int) == 0)=false:=by simp;omega
    have HST2:Hid (ve k out ((L.take 8).drop j)=if (qg out q).isSome&&!xH q k then ve k out ((L.take 8).drop (j+1)) else ve k (out++[⟨q,N,A,B⟩]) ((L.take 8).drop (j+1))):=Lib.hid (by rw[HST.out,if_neg h0]);have HGE:Hid (∀ (a:Option Addr) (c:Nat),∃ i n A B,∃ s,s=(qg out q).isSome∧∀ w,Row w a (PC out)→Calls Tryz.prog 13 #[.slice a out.length c,.int .u8 q] w (λe w'=>e=.returned (.tuple #[.agg #[.int .u8 (i:Nat),.int .u32 (n:Nat),.string A,.string B],.bool s])∧Kept No w w')):=Lib.hid (λa c=>j04 a c out q q rfl (by omega));have HOF:=Lib.hid (λwx=>jC0 q k wx HQ.out);clear HST h0;have hbx:=Blk.new w2 46 #[.int .u8 q,.int .u32 N,.string A,.string B];have hka:Kept No w2 (w2.alloc (.cells #[.int .u8 q,.int .u32 N,.string A,.string B] 46)):=(Kept.refl No w2).alloc _;obtain ⟨gi,gn,gA,gB,gs,hgs,HGC⟩:=HGE.out ao co;have HGC:=Lib.hid HGC;have HGS:=Lib.hid hgs;clear hgs HGE
    go_wp2_with fail
    generalize hg7:w2.heap.size=g7 at *;generalize w2.alloc (.cells #[.int .u8 q,.int .u32 N,.string A,.string B] 46)=wa at *;have hown3:=jU hown2 hka
    go_at_call 13
    refine (HGC.out wa (ju hown3).1).mono ?_;rintro e w3 ⟨rfl,hk3⟩;have hb0:=(hbx.kept hk3 (λf=>f)).cell 0;simp at hb0;have hown4:=jU hown3 hk3;have hbx3:=(hbx.kept hk3 (λf=>f)).alloc (.cells #[.int .u8 gi,.int .u32 gn,.string gA,.string gB] 46);have hkb:Kept No w3 (w3.alloc (.cells #[.int .u8 gi,.int .u32 gn,.string gA,.string gB] 46)):=(Kept.refl No w3).alloc _;have hown5:=jU hown4 hkb;have hkall:=(((hk.trans hk2).trans hka).trans hk3).trans hkb;have hza:=hka.size;have hz3:=hk3.size;have hzb:=hkb.size;cases gs with
    | false =>
     have HNX:Hid (ve k [] (L.take 8)=ve k (out++[⟨q,N,A,B⟩]) ((L.take 8).drop (j+1))):=Lib.hid (by rw[HG.out,HST2.out,← HGS.out];rfl);clear HST2 HGS HG HOF hown hown2 hown3 hown4 hk hk2 hka hk3 hkb hbx;have b0:(w3.alloc (.cells #[.int .u8 gi,.int .u32 gn,.string gA,.string gB] 46)).cell? ⟨g7,0,none⟩=some (.int .u8 q):=hbx3.cell 0;have b1:(w3.alloc (.cells #[.int .u8 gi,.int .u32 gn,.string gA,.string gB] 46)).cell? ⟨g7,1,none⟩=some (.int .u32 N):=hbx3.cell 1;have b2:(w3.alloc (.cells #[.int .u8 gi,.int .u32 gn,.string gA,.string gB] 46)).cell? ⟨g7,2,none⟩=some (.string A):=hbx3.cell 2;have b3:(w3.alloc (.cells #[.int .u8 gi,.int .u32 gn,.string gA,.string gB] 46)).cell? ⟨g7,3,none⟩=some (.string B):=hbx3.cell 3
     go_wp2_with (at_builtin;refine wpList_append_own _ rfl _ _ _ rfl w.heap.size 46 i0 _ 4 40 Tryz.underlying23 hi hz0 hz1 hz2 rfl (by decide) _ _ _ rfl (hown5.alloc _) ⟨w3.heap.size+1,0,none⟩ 1 1 (PC [⟨q,N,A,B⟩]) rfl ?c0 ?c1 (xX _) ?c2 ?c3 ?c4 ?_;rotate_right;intro v3 w4 hown6 hg4 _)
     case c0=>exact zj [] _
     case c1 =>
      have:=j1e (w:=(w3.alloc (.cells #[.int .u8 gi,.int .u32 gn,.string gA,.string gB] 46))) (t:=46) (p:=⟨q,N,A,B⟩)
      rw[World.size_alloc]at this;exact this
     case c2=>unfold maxLen;omega
     case c3=>omega
     case c4=>have:=hkall.size;rw[World.size_alloc]at this;simp;omega
     go_roundw
     case rel=>exact ⟨j+1,out++[⟨q,N,A,B⟩],by go_num,by omega,by omega,by simp;omega,HNX,by rw[vy,List.length_append];exact hown6,(hkall.alloc _).grown hg4 (vH hown5)⟩
     case measure=>simp[intOf];omega
    | true =>
     rcases hof:xH q k with _|_
     ·have HNX:Hid (ve k [] (L.take 8)=ve k out ((L.take 8).drop (j+1))):=Lib.hid (by rw[HG.out,HST2.out,← HGS.out,hof];rfl)
      rw[hof]at HOF;clear HST2 HGS HG hof hown hown2 hown3 hown4 hk hk2 hka hk3 hkb hbx;have b0:(w3.alloc (.cells #[.int .u8 gi,.int .u32 gn,.string gA,.string gB] 46)).cell? ⟨g7,0,none⟩=some (.int .u8 q):=hbx3.cell 0;have b1:(w3.alloc (.cells #[.int .u8 gi,.int .u32 gn,.string gA,.string gB] 46)).cell? ⟨g7,1,none⟩=some (.int .u32 N):=hbx3.cell 1;have b2:(w3.alloc (.cells #[.int .u8 gi,.int .u32 gn,.string gA,.string gB] 46)).cell? ⟨g7,2,none⟩=some (.string A):=hbx3.cell 2;have b3:(w3.alloc (.cells #[.int .u8 gi,.int .u32 gn,.string gA,.string gB] 46)).cell? ⟨g7,3,none⟩=some (.string B):=hbx3.cell 3
      go_wp2_with (go_at_call 28;refine (HOF.out _).mono ?_;rintro e w5 ⟨rfl,hk5⟩)
      go_roundw
      case rel=>exact ⟨j+1,out,by go_num,by omega,by omega,by omega,HNX,jU hown5 hk5,hkall.trans hk5⟩
      case measure=>simp[intOf];omega
     ·have HNX:Hid (ve k [] (L.take 8)=ve k (out++[⟨q,N,A,B⟩]) ((L.take 8).drop (j+1))):=Lib.hid (by rw[HG.out,HST2.out,← HGS.out,hof];rfl)
      rw[hof]at HOF;clear HST2 HGS HG hof hown hown2 hown3 hown4 hk hk2 hka hk3 hkb hbx;have b0:(w3.alloc (.cells #[.int .u8 gi,.int .u32 gn,.string gA,.string gB] 46)).cell? ⟨g7,0,none⟩=some (.int .u8 q):=hbx3.cell 0;have b1:(w3.alloc (.cells #[.int .u8 gi,.int .u32 gn,.string gA,.string gB] 46)).cell? ⟨g7,1,none⟩=some (.int .u32 N):=hbx3.cell 1;have b2:(w3.alloc (.cells #[.int .u8 gi,.int .u32 gn,.string gA,.string gB] 46)).cell? ⟨g7,2,none⟩=some (.string A):=hbx3.cell 2;have b3:(w3.alloc (.cells #[.int .u8 gi,.int .u32 gn,.string gA,.string gB] 46)).cell? ⟨g7,3,none⟩=some (.string B):=hbx3.cell 3
      go_wp2_with (first
       | (go_at_call 28;refine (HOF.out _).mono ?_;rintro e w5 ⟨rfl,hk5⟩;have d0:w5.cell? ⟨g7,0,none⟩=some (.int .u8 q):=(hbx3.kept hk5 (λf=>f)).cell 0;have d1:w5.cell? ⟨g7,1,none⟩=some (.int .u32 N):=(hbx3.kept hk5 (λf=>f)).cell 1;have d2:w5.cell? ⟨g7,2,none⟩=some (.string A):=(hbx3.kept hk5 (λf=>f)).cell 2;have d3:w5.cell? ⟨g7,3,none⟩=some (.string B):=(hbx3.kept hk5 (λf=>f)).cell 3;have hown5b:=jU hown5 hk5)
       | (at_builtin;refine wpList_append_own _ rfl _ _ _ rfl w.heap.size 46 i0 _ 4 40 Tryz.underlying23 hi hz0 hz1 hz2 rfl (by decide) _ _ _ rfl (hown5b.alloc _) ⟨w5.heap.size,0,none⟩ 1 1 (PC [⟨q,N,A,B⟩]) rfl ?c0 ?c1 (xX _) ?c2 ?c3 ?c4 ?_;rotate_right;intro v3 w4 hown6 hg4 _))
      case c0=>exact zj [] _
      case c1=>exact j1e (p:=⟨q,N,A,B⟩)
      case c2=>unfold maxLen;omega
      case c3=>omega
      case c4=>have:=(hkall.trans hk5).size;simp;omega
      go_roundw
      case rel=>exact ⟨j+1,out++[⟨q,N,A,B⟩],by go_num,by omega,by omega,by simp;omega,HNX,by rw[vy,List.length_append];exact hown6,((hkall.trans hk5).alloc _).grown hg4 (vH hown5b)⟩
      case measure=>simp[intOf];omega
   ·have h8I:¬ (j:Int)<8:=by omega
    have HFN:Hid (RES=jX (j1w out)):=Lib.hid (HF6.out out (by rw[HG.out,List.drop_eq_nil_of_le (by rw[List.length_take];omega)];rfl));have HPA:=Lib.hid (j04 ao co out 22 22 rfl (by omega));obtain ⟨e1,e2,e3,e4,s22,hs22,HGD⟩:=HPA.out;have HGD:=Lib.hid HGD;have HPB:=Lib.hid (j04 ao co out 21 21 rfl (by omega));obtain ⟨f1,f2,f3,f4,s21,hs21,HGM⟩:=HPB.out;have HGM:=Lib.hid HGM;have HAD:Hid (j1w out=if s22&&!s21 then out++[m21] else out):=Lib.hid (by unfold j1w;rw[hs22,hs21]);clear hs22 hs21 HPA HPB HG HF6
    go_wp2_with fail
    go_at_call 13
    refine (HGD.out wr hro).mono ?_;rintro e x1 ⟨rfl,j1⟩;have own1:=jU (jU hown j1) ((Kept.refl No x1).alloc (.cells #[.int .u8 e1,.int .u32 e2,.string e3,.string e4] 46));have jj1:=(hk.trans j1).alloc (.cells #[.int .u8 e1,.int .u32 e2,.string e3,.string e4] 46);cases s22 with
    | false =>
     have HE:Hid (RES=jX out):=Lib.hid (by rw[HFN.out,HAD.out];rfl)
     go_wp2_with fail
     generalize x1.alloc (.cells #[.int .u8 e1,.int .u32 e2,.string e3,.string e4] 46)=x2 at *
     go_at_call 14
     refine (xy ao co out x2 (ju own1).1 hno (by omega)).mono ?_;rintro e x3 ⟨a9,c9,rfl,h5,h6⟩
     go_wp2_with fail
     go_ret
     rw[HE.out];exact ⟨a9,c9,by rw[je];first|rfl|skip,by rw[je];exact xj h5 jj1.size,jj1.trans h6⟩
    | true =>
     go_wp2_with fail
     generalize x1.alloc (.cells #[.int .u8 e1,.int .u32 e2,.string e3,.string e4] 46)=x2 at *
     go_at_call 13
     refine (HGM.out x2 (ju own1).1).mono ?_;rintro e x3 ⟨rfl,j3⟩;have own3:=jU (jU own1 j3) ((Kept.refl No x3).alloc (.cells #[.int .u8 f1,.int .u32 f2,.string f3,.string f4] 46));have jj3:=(jj1.trans j3).alloc (.cells #[.int .u8 f1,.int .u32 f2,.string f3,.string f4] 46);cases s21 with
     | true =>
      have HE:Hid (RES=jX out):=Lib.hid (by rw[HFN.out,HAD.out];rfl)
      go_wp2_with fail
      generalize x3.alloc (.cells #[.int .u8 f1,.int .u32 f2,.string f3,.string f4] 46)=x4 at *
      go_at_call 14
      refine (xy ao co out x4 (ju own3).1 hno (by omega)).mono ?_;rintro e x5 ⟨a9,c9,rfl,h5,h6⟩
      go_wp2_with fail
      go_ret
      rw[HE.out];exact ⟨a9,c9,by rw[je];first|rfl|skip,by rw[je];exact xj h5 jj3.size,jj3.trans h6⟩
     | false =>
      have HE:Hid (RES=jX (out++[m21])):=Lib.hid (by rw[HFN.out,HAD.out];rfl)
      go_wp2_with fail
      generalize x3.alloc (.cells #[.int .u8 f1,.int .u32 f2,.string f3,.string f4] 46)=x4 at *
      go_at_call 9
      refine (z7 ⟨#[109]⟩ x4 (by decide)).mono ?_;rintro e x5 ⟨rfl,j5⟩;have own5:=jU own3 j5;have jj5:=jj3.trans j5;generalize hfm:vX ⟨#[109]⟩=FM at *;have HFM:=Lib.hid hfm;clear hfm
      go_wp2_with (at_builtin;refine wpList_append_own _ rfl _ _ _ rfl w.heap.size 46 i0 _ 4 40 Tryz.underlying23 hi hz0 hz1 hz2 rfl (by decide) _ _ _ rfl (own5.alloc _) ⟨x5.heap.size,0,none⟩ 1 1 (PC [⟨21,0,FM,⟨#[]⟩⟩]) rfl ?c0 ?c1 (xX _) ?c2 ?c3 ?c4 ?_;rotate_right;intro v3 x6 own6 hg6 _)
      case c0=>exact zj [] _
      case c1=>exact j1e (p:=⟨21,0,FM,⟨#[]⟩⟩)
      case c2=>unfold maxLen;omega
      case c3=>omega
      case c4=>have:=jj5.size;simp;omega
      have jj6:=(jj5.alloc _).grown hg6 (vH own5);rw[← vy]at own6;have HM:Hid (out++[⟨21,0,FM,⟨#[]⟩⟩]=out++[m21]):=Lib.hid (by rw[← HFM.out];rfl);rw[HM.out]at own6;obtain ⟨a7,c7,rfl,hr7,hn7⟩:=j1f own6;have hl7:out.length+1=(out++[m21]).length:=by simp
      have HS7:=Lib.hid (xy a7 c7 (out++[m21]) x6 hr7 (λh=>by rw[← hl7];exact hn7 h) (by rw[← hl7];omega));rw[← hl7]at HS7
      go_wp2_with fail
      go_at_call 14
      refine HS7.out.mono ?_;rintro e x7 ⟨a9,c9,rfl,h5,h6⟩;dsimp only
      go_wp2_with fail
      go_ret
      rw[HE.out];exact ⟨a9,c9,by rw[je,← hl7];first|rfl|skip,by rw[je,← hl7];exact xj h5 jj6.size,jj6.trans h6⟩
  ·have hltI:¬ (j:Int)<(L.length:Int):=by omega
   have HFN:Hid (RES=jX (j1w out)):=Lib.hid (HF6.out out (by rw[HG.out,List.drop_eq_nil_of_le (by rw[List.length_take];omega)];rfl));have HPA:=Lib.hid (j04 ao co out 22 22 rfl (by omega));obtain ⟨e1,e2,e3,e4,s22,hs22,HGD⟩:=HPA.out;have HGD:=Lib.hid HGD;have HPB:=Lib.hid (j04 ao co out 21 21 rfl (by omega));obtain ⟨f1,f2,f3,f4,s21,hs21,HGM⟩:=HPB.out;have HGM:=Lib.hid HGM;have HAD:Hid (j1w out=if s22&&!s21 then out++[m21] else out):=Lib.hid (by unfold j1w;rw[hs22,hs21]);clear hs22 hs21 HPA HPB HG HF6
   go_wp2_with fail
   go_at_call 13
   refine (HGD.out wr hro).mono ?_;rintro e x1 ⟨rfl,j1⟩;have own1:=jU (jU hown j1) ((Kept.refl No x1).alloc (.cells #[.int .u8 e1,.int .u32 e2,.string e3,.string e4] 46));have jj1:=(hk.trans j1).alloc (.cells #[.int .u8 e1,.int .u32 e2,.string e3,.string e4] 46);cases s22 with
   | false =>
    have HE:Hid (RES=jX out):=Lib.hid (by rw[HFN.out,HAD.out];rfl)
    go_wp2_with fail
    generalize x1.alloc (.cells #[.int .u8 e1,.int .u32 e2,.string e3,.string e4] 46)=x2 at *
    go_at_call 14
    refine (xy ao co out x2 (ju own1).1 hno (by omega)).mono ?_;rintro e x3 ⟨a9,c9,rfl,h5,h6⟩
    go_wp2_with fail
    go_ret
    rw[HE.out];exact ⟨a9,c9,by rw[je];first|rfl|skip,by rw[je];exact xj h5 jj1.size,jj1.trans h6⟩
   | true =>
    go_wp2_with fail
    generalize x1.alloc (.cells #[.int .u8 e1,.int .u32 e2,.string e3,.string e4] 46)=x2 at *
    go_at_call 13
    refine (HGM.out x2 (ju own1).1).mono ?_;rintro e x3 ⟨rfl,j3⟩;have own3:=jU (jU own1 j3) ((Kept.refl No x3).alloc (.cells #[.int .u8 f1,.int .u32 f2,.string f3,.string f4] 46));have jj3:=(jj1.trans j3).alloc (.cells #[.int .u8 f1,.int .u32 f2,.string f3,.string f4] 46);cases s21 with
    | true =>
     have HE:Hid (RES=jX out):=Lib.hid (by rw[HFN.out,HAD.out];rfl)
     go_wp2_with fail
     generalize x3.alloc (.cells #[.int .u8 f1,.int .u32 f2,.string f3,.string f4] 46)=x4 at *
     go_at_call 14
     refine (xy ao co out x4 (ju own3).1 hno (by omega)).mono ?_;rintro e x5 ⟨a9,c9,rfl,h5,h6⟩
     go_wp2_with fail
     go_ret
     rw[HE.out];exact ⟨a9,c9,by rw[je];first|rfl|skip,by rw[je];exact xj h5 jj3.size,jj3.trans h6⟩
    | false =>
     have HE:Hid (RES=jX (out++[m21])):=Lib.hid (by rw[HFN.out,HAD.out];rfl)
     go_wp2_with fail
     generalize x3.alloc (.cells #[.int .u8 f1,.int .u32 f2,.string f3,.string f4] 46)=x4 at *
     go_at_call 9
     refine (z7 ⟨#[109]⟩ x4 (by decide)).mono ?_;rintro e x5 ⟨rfl,j5⟩;have own5:=jU own3 j5;have jj5:=jj3.trans j5;generalize hfm:vX ⟨#[109]⟩=FM at *;have HFM:=Lib.hid hfm;clear hfm
     go_wp2_with (at_builtin;refine wpList_append_own _ rfl _ _ _ rfl w.heap.size 46 i0 _ 4 40 Tryz.underlying23 hi hz0 hz1 hz2 rfl (by decide) _ _ _ rfl (own5.alloc _) ⟨x5.heap.size,0,none⟩ 1 1 (PC [⟨21,0,FM,⟨#[]⟩⟩]) rfl ?c0 ?c1 (xX _) ?c2 ?c3 ?c4 ?_;rotate_right;intro v3 x6 own6 hg6 _)
     case c0=>exact zj [] _
     case c1=>exact j1e (p:=⟨21,0,FM,⟨#[]⟩⟩)
     case c2=>unfold maxLen;omega
     case c3=>omega
     case c4=>have:=jj5.size;simp;omega
     have jj6:=(jj5.alloc _).grown hg6 (vH own5);rw[← vy]at own6;have HM:Hid (out++[⟨21,0,FM,⟨#[]⟩⟩]=out++[m21]):=Lib.hid (by rw[← HFM.out];rfl);rw[HM.out]at own6;obtain ⟨a7,c7,rfl,hr7,hn7⟩:=j1f own6;have hl7:out.length+1=(out++[m21]).length:=by simp
     have HS7:=Lib.hid (xy a7 c7 (out++[m21]) x6 hr7 (λh=>by rw[← hl7];exact hn7 h) (by rw[← hl7];omega));rw[← hl7]at HS7
     go_wp2_with fail
     go_at_call 14
     refine HS7.out.mono ?_;rintro e x7 ⟨a9,c9,rfl,h5,h6⟩;dsimp only
     go_wp2_with fail
     go_ret
     rw[HE.out];exact ⟨a9,c9,by rw[je,← hl7];first|rfl|skip,by rw[je,← hl7];exact xj h5 jj6.size,jj6.trans h6⟩
end Go.Proofs.YtkochkhfbhjicaaGreatDoor
