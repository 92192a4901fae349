import Derived.Test.YtohmcfmcbibbcaaGreatDoorYF8
import Derived.Test.YtohmcfmcbibbcaaGreatDoorYF9
import Derived.Test.YtohmcfmcbibbcaaGreatDoorYFR
namespace Go.Proofs.YtohmcfmcbibbcaaGreatDoor
open Go.RowKit
set_option linter.unusedVariables false
set_option linter.unusedSimpArgs false
set_option maxRecDepth 100000
theorem takeSec_len (l:List UInt8) (e:Int):(takeSec l e).length≤l.length:=by
 have h1:=(rv_suf 4 0 0 l e).length_le;unfold takeSec taken
 split
 ·rw[List.length_take];omega
 ·simp
def fxP (k:Int) (p:Pr):Pr:=⟨fxId p.id k,fxN (fxId p.id k) p.n,fxA (fxId p.id k) p.a,fxB (fxId p.id k) p.b⟩
def fixGo (k:Int):List Pr→List Pr→Option (List Pr)
 | out,[]=>some out
 | out,p :: t=>if (fxP k p).id=0 then none else if (getL out (fxP k p).id).isSome&&!oftenB (fxP k p).id k then fixGo k out t else fixGo k (out++[fxP k p]) t
def m21:Pr:=⟨21,0,fixS ⟨#[109]⟩,⟨#[]⟩⟩
def addM (out:List Pr):List Pr:=if (getL out 22).isSome&&!(getL out 21).isSome then out++[m21] else out
def fix6 (L:List Pr) (k:Int):List Pr:=match fixGo k [] (L.take 8) with|none=>[]|some out=>sortL (addM out)
structure FixOk (k:Int) (out:List Pr):Prop where
 val:∀ p∈out,valueB p.id p.n p.a p.b=true∧forB p.id k=true∧p.id < 256∧p.n < 4294967296∧p.a.size≤32∧p.b.size≤32
 once:∀ i,2≤(idf i out).length→oftenB i k=true
theorem fxA_small (q:Nat) (a:ByteArray):(fxA q a).size≤32:=by
 unfold fxA;have h1:=fixS_len a;have h2:=cut9_len a;have h3:=(made_fix a).size.2
 repeat' split
 all_goals first|omega|(show (⟨#[]⟩:ByteArray).size≤32;decide)
theorem fxB_small (q:Nat) (b:ByteArray):(fxB q b).size≤32:=by
 unfold fxB;have h1:=fixS_len b
 split
 ·omega
 ·show (⟨#[]⟩:ByteArray).size≤32
  decide
theorem fxN_small (q n:Nat) (h:n < 4294967296):fxN q n < 4294967296:=by
 unfold fxN
 repeat' split
 all_goals omega
theorem getL_idf:∀ (L:List Pr) (i:Nat),(getL L i).isSome=true↔0 < (idf i L).length
 | [],i=>by simp[getL,idf]
 | p :: t,i=>by
  by_cases h:p.id=i
  ·rw[idf_pos h]
   simp[getL,h]
  ·rw[idf_neg h,← getL_idf t i]
   simp[getL,h]
theorem fxP_in {k:Int} {p:Pr} (h:(fxP k p).id≠0):fxId p.id k∈idsL k:=by
 by_cases h0:idsL k=[]
 ·exfalso
  apply h;show fxId p.id k=0;unfold fxId;rw[h0]
  rfl
 ·exact fxId_mem h0
theorem fxP_ok {k:Int} {p:Pr} (hn:p.n < 4294967296) (h:(fxP k p).id≠0):valueB (fxP k p).id (fxP k p).n (fxP k p).a (fxP k p).b=true∧forB (fxP k p).id k=true∧(fxP k p).id < 256∧(fxP k p).n < 4294967296∧(fxP k p).a.size≤32∧(fxP k p).b.size≤32:=by
 obtain ⟨h1,h2,h3,h4,h5⟩:=idsL_mem (fxP_in h);exact ⟨fx_value _ _ _ _ hn h2 h3,h5,h2,fxN_small _ _ hn,fxA_small _ _,fxB_small _ _⟩
theorem fixGo_ok {k:Int}:∀ (L out R:List Pr),(∀ p∈L,p.n < 4294967296)→FixOk k out→fixGo k out L=some R→FixOk k R∧R.length≤out.length+L.length
 | [],out,R,_,ho,h=>by
  injection h with h;subst h;exact ⟨ho,by simp⟩
 | p :: t,out,R,hw,ho,h=>by
  unfold fixGo at h
  by_cases h0:(fxP k p).id=0
  ·rw[if_pos h0]at h;cases h
  rw[if_neg h0]at h
  by_cases h1:((getL out (fxP k p).id).isSome&&!oftenB (fxP k p).id k)=true
  ·rw[if_pos h1]at h
   obtain ⟨q1,q2⟩:=fixGo_ok t out R (fun x hx=>hw x (by simp[hx])) ho h;exact ⟨q1,by simp;omega⟩
  ·rw[if_neg h1]at h
   have hp:=fxP_ok (k:=k) (hw p (by simp)) h0
   obtain ⟨q1,q2⟩:=fixGo_ok t (out++[fxP k p]) R (fun x hx=>hw x (by simp[hx])) ⟨fun x hx=>by
    rcases List.mem_append.1 hx with hx|hx
    ·exact ho.val x hx
    ·rw[List.mem_singleton.1 hx];exact hp,fun i hi=>by
    rw[idf_append,List.length_append]at hi
    by_cases he:(fxP k p).id=i
    ·by_cases ho2:oftenB i k=true
     ·exact ho2
     ·exfalso
      apply h1;rw[he,Bool.and_eq_true];refine ⟨(getL_idf out i).2 ?_,by simpa using ho2⟩;rw[idf_pos he,show idf i ([]:List Pr)=[] from rfl]at hi;simp at hi;omega
    ·rw[idf_neg he,show idf i ([]:List Pr)=[] from rfl]at hi
     exact ho.once i (by simpa using hi)⟩ h
   exact ⟨q1,by simp at q2 ⊢;omega⟩
theorem for21:∀ (k:Int),forB 22 k=true→forB 21 k=true:=by
 intro k h;unfold forB at h ⊢;have e1:kindsL 22=kindsL 21:=by decide
 rwa [e1]at h
theorem addM_ok {k:Int} {out:List Pr} (h:FixOk k out):FixOk k (addM out)∧(addM out).length≤out.length+1∧((getL (addM out) 21).isSome||!(getL (addM out) 22).isSome)=true:=by
 unfold addM
 by_cases hc:((getL out 22).isSome&&!(getL out 21).isSome)=true
 ·rw[if_pos hc]
  rw[Bool.and_eq_true]at hc;have hpos:=(getL_idf out 22).1 hc.1
  obtain ⟨x,hx⟩:∃ x,x∈idf 22 out:=by
   cases hh:idf 22 out with
   | nil=>rw[hh]at hpos;simp at hpos
   | cons x t=>exact ⟨x,by simp⟩
  have hxo:x∈out:=(List.mem_filter.1 hx).1;have hxi:x.id=22:=by simpa using (List.mem_filter.1 hx).2
  have hf:=(h.val x hxo).2.1;rw[hxi]at hf;have h21:(getL out 21).isSome=false:=by simpa using hc.2
  have hz:(idf 21 out).length=0:=by
   rcases Nat.eq_zero_or_pos (idf 21 out).length with q|q
   ·exact q
   ·rw[(getL_idf out 21).2 q]at h21;cases h21
  refine ⟨⟨fun p hp=>?_,fun i hi=>?_⟩,by simp,?_⟩
  ·rcases List.mem_append.1 hp with hp|hp
   ·exact h.val p hp
   ·rw[List.mem_singleton.1 hp]
    refine ⟨?_,for21 k hf,by decide,by decide,by have:=fixS_len ⟨#[109]⟩;show (fixS ⟨#[109]⟩).size≤32;omega,by show (⟨#[]⟩:ByteArray).size≤32;decide⟩;exact fx_value 21 0 ⟨#[109]⟩ ⟨#[]⟩ (by decide) (by decide) (by decide)
  ·rw[idf_append,List.length_append]at hi
   by_cases he:i=21
   ·subst he
    rw[hz,idf_pos (i:=21) (p:=m21) (L:=[]) rfl,show idf 21 ([]:List Pr)=[] from rfl]at hi;simp at hi
   ·rw[idf_neg (p:=m21) (fun e=>he e.symm),show idf i ([]:List Pr)=[] from rfl]at hi
    exact h.once i (by simpa using hi)
  ·rw[(getL_idf (out++[m21]) 21).2 (by rw[idf_append,List.length_append,idf_pos (i:=21) (p:=m21) (L:=[]) rfl];simp only[List.length_cons];omega)]
   rfl
 ·rw[if_neg hc]
  refine ⟨h,by omega,?_⟩;cases h1:(getL out 22).isSome<;>cases h2:(getL out 21).isSome<;>rw[h1,h2]at hc<;>simp at hc ⊢
theorem getL_ste {L M:List Pr} (h:Ste L M) (i:Nat):(getL L i).isSome=(getL M i).isSome:=by
 rw[Bool.eq_iff_iff,getL_idf,getL_idf,h i]
theorem chk_srt {k:Int}:∀ (L:List Pr) (q:Option Nat),Srt L→(∀ p∈L,valueB p.id p.n p.a p.b=true∧forB p.id k=true)→(∀ i,2≤(idf i L).length→oftenB i k=true) →
  (∀ x,q=some x→∀ p∈L,x < p.id∨(x=p.id∧oftenB p.id k=true))→chkGo k q L=true
 | [],_,_,_,_,_=>rfl
 | p :: t,q,hs,hv,ho,hq=>by
  have hp:=hv p (by simp)
  have hf:folB k q p.id=true:=by
   cases q with
   | none=>rfl
   | some x =>
    show followsB k x p.id=true;unfold followsB;rcases hq x rfl p (by simp) with h|⟨h1,h2⟩
    ·simp[h]
    ·simp[h1,h2]
  rw[chkGo,hp.1,hp.2,hf];show chkGo k (some p.id) t=true;have hs2:=List.pairwise_cons.1 hs;refine chk_srt t (some p.id) hs2.2 (fun x hx=>hv x (by simp[hx])) (fun i hi=>ho i ?_) (fun x hx z hz=>?_)
  ·by_cases e:p.id=i
   ·rw[idf_pos e];simp;omega
   ·rw[idf_neg e];exact hi
  ·injection hx with hx
   subst hx;have hle:=hs2.1 z hz
   by_cases e:p.id=z.id
   ·right
    refine ⟨e,?_⟩;rw[← e];refine ho p.id ?_;rw[idf_pos rfl]
    have:z∈idf p.id t:=List.mem_filter.2 ⟨hz,by simp[e]⟩
    have:=List.length_pos_of_mem this
    simp;omega
   ·left;omega
theorem fix6_ok (L:List Pr) (k:Int) (hw:∀ p∈L,p.n < 4294967296):checkB k (fix6 L k)=true∧(fix6 L k).length≤9∧Srt (fix6 L k)∧(∀ p∈fix6 L k,p.ok=true∧p.id < 256∧p.n < 4294967296∧p.a.size≤32∧p.b.size≤32):=by
 unfold fix6;rcases hG:fixGo k [] (L.take 8) with _|out
 ·refine ⟨by simp[checkB,chkGo,getL],by simp,Srt.nil,by simp⟩
 ·dsimp only
  obtain ⟨h1,h2⟩:=fixGo_ok (L.take 8) [] out (fun p hp=>hw p (List.mem_of_mem_take hp)) ⟨by simp,by simp[idf]⟩ hG;obtain ⟨g1,g2,g3⟩:=addM_ok h1;have hlen:out.length≤8:=by have:=List.length_take_le 8 L;simp at h2;omega
  have hste:=sortL_ste (addM out);refine ⟨?_,by rw[sortL_length];omega,sortL_srt _,fun p hp=>?_⟩
  ·unfold checkB
   rw[sortL_length,decide_eq_true (by omega),← getL_ste hste 21,← getL_ste hste 22,g3,chk_srt (sortL (addM out)) none (sortL_srt _) (fun p hp=>by have:=g1.val p (sortL_mem.1 hp);exact ⟨this.1,this.2.1⟩) (fun i hi=>g1.once i (by rw[hste i];exact hi)) (fun x hx=>by cases hx)]
   rfl
  ·have:=g1.val p (sortL_mem.1 hp)
   refine ⟨?_,this.2.2⟩;have h9:=this.1;unfold valueB at h9;rw[Bool.and_eq_true]at h9;exact h9.1
theorem rget_parts (a:Option Addr) (c:Nat) (L:List Pr) (x:Nat) (xi:Int) (hx:xi=x) (hl:L.length≤100000):∃ i n A B,∃ s,s=(getL L x).isSome∧∀ w,Row w a (PC L) →
  Calls Tryz.prog 61 #[.slice a L.length c,.int .u8 xi] w (fun e w'=>e=.returned (.tuple #[.agg #[.int .u8 (i:Nat),.int .u32 (n:Nat),.string A,.string B],.bool s])∧Kept No w w') :=
 by
 subst hx;exact ⟨_,_,_,_,_,rfl,fun w hr=>(rget_any a c L x w hr hl).mono fun e w' h=>⟨h.1,h.2⟩⟩
theorem rsort_own (a:Option Addr) (c0:Nat) (M:List Pr) (w:World) (hr:Row w a (PC M)) (hn:a=none→M.length=0∧c0=0) (hl:M.length≤100000) :
  Calls Tryz.prog 62 #[.slice a M.length c0] w fun e w'=>∃ a' c',e=.returned (.slice a' M.length c')∧w'.ownsRow w.heap.size 123 4 (.slice a' M.length c') M.length (PC (sortL M))∧Kept No w w' :=
 (rsort_any a c0 M w hr hn hl).mono fun e w' ⟨a',c',h1,h2,h3⟩=>by
  rw[sortL_length]at h1 h2;exact ⟨a',c',h1,h2,h3⟩
theorem fixGo_step {k:Int} {L out:List Pr} {j:Nat} (h:j < L.length) (h8:j < 8):fixGo k out ((L.take 8).drop j)=if (fxP k L[j]).id=0 then none else if (getL out (fxP k L[j]).id).isSome&&!oftenB (fxP k L[j]).id k then fixGo k out ((L.take 8).drop (j+1)) else fixGo k (out++[fxP k L[j]]) ((L.take 8).drop (j+1)):=by
 have e:(L.take 8).drop j=L[j] :: (L.take 8).drop (j+1):=by
  have h9:j < (L.take 8).length:=by rw[List.length_take];omega
  rw[List.drop_eq_getElem_cons h9,List.getElem_take]
 rw[e,fixGo]
set_option maxHeartbeats 8000000 in
theorem rfix6_any (a:Option Addr) (c:Nat) (L:List Pr) (k:Int) (w:World) (hr:Row w a (PC L)) (hl:L.length≤9223372036854775807) (hw:∀ p∈L,p.id < 256∧p.n < 4294967296∧p.a.size≤9223372036854775807∧p.b.size≤9223372036854775807) :
  Calls Tryz.prog 60 #[.slice a L.length c,.int .i64 k] w (OwnP 123 w (fix6 L k)):=by
 obtain ⟨i0,hi,hz0,hz1,hz2⟩:=info_parts info_rprop;have HW:=Lib.hid hw;have HFa:Hid (fixGo k [] (L.take 8)=none→fix6 L k=[]):=Lib.hid (fun h=>by unfold fix6;rw[h]);have HF6:Hid (∀ out,fixGo k [] (L.take 8)=some out→fix6 L k=sortL (addM out)):=Lib.hid (fun out h=>by unfold fix6;rw[h]);generalize fix6 L k=RES at *;clear hw;have hlI:(L.length:Int)≤9223372036854775807:=by omega
 go_enter Tryz.func60,Tryz.ntmps60
 go_wp2
 go_loopw [5,6] (fun s i wr=>∃ (j:Nat) (out:List Pr),i=.int .i64 j∧j≤L.length∧j≤8∧out.length≤j∧Hid (fixGo k [] (L.take 8)=fixGo k out ((L.take 8).drop j))∧wr.ownsRow w.heap.size 123 4 s out.length (PC out)∧Kept No w wr) (fun _ i _=>L.length - (intOf i).toNat)
 case atStart=>exact ⟨0,[],rfl,by omega,by omega,by simp,Lib.hid (by simp),World.ownsRow_nil _ _ _ _,Kept.refl _ _⟩
 case round =>
  obtain ⟨j,out,rfl,hj,hj8,hol,HG,hown,hk⟩:=hrel;obtain ⟨ao,co,rfl,hro,hno⟩:=own_form hown
  by_cases hlt:j < L.length
  ·have hltI:(j:Int) < (L.length:Int):=by omega
   by_cases h8:j < 8
   ·have h8I:(j:Int) < 8:=by omega
    have HST:=Lib.hid (fixGo_step (k:=k) (out:=out) hlt h8);obtain ⟨b,off,rfl,hb,q0,q1,q2,q3⟩:=(hr.keptNo hk).prop hlt;have hx:=HW.out _ (List.getElem_mem hlt);generalize L[j]=x at *;obtain ⟨xi,xn,xa,xb⟩:=x;dsimp only at q0 q1 q2 q3 hx;have HFX:Hid (∀ wx,Calls Tryz.prog 123 #[.agg #[.int .u8 xi,.int .u32 xn,.string xa,.string xb],.int .i64 k] wx fun e w'=>e=.returned (.agg #[.int .u8 (fxP k ⟨xi,xn,xa,xb⟩).id,.int .u32 (fxP k ⟨xi,xn,xa,xb⟩).n,.string (fxP k ⟨xi,xn,xa,xb⟩).a,.string (fxP k ⟨xi,xn,xa,xb⟩).b])∧Kept No wx w'):=Lib.hid (fun wx=>rfix_any xi xn xa xb k wx hx.1 hx.2.1 hx.2.2.1 hx.2.2.2)
    have HQ:Hid ((fxP k ⟨xi,xn,xa,xb⟩).id < 256):=Lib.hid (by
     by_cases h0:(fxP k ⟨xi,xn,xa,xb⟩).id=0
     ·omega
     ·exact (fxP_ok (k:=k) (p:=⟨xi,xn,xa,xb⟩) hx.2.1 h0).2.2.1)
    generalize fxP k ⟨xi,xn,xa,xb⟩=P9 at *;obtain ⟨q,N,A,B⟩:=P9;dsimp only at HFX HST HQ;clear hx
    go_wp2_with fail
    go_at_call 123
    refine (HFX.out wr).mono ?_;rintro e w2 ⟨rfl,hk2⟩;have hown2:=own_keptNo hown hk2;have hsz2:=hk2.size
    by_cases h0:q=0
    ·subst h0
     have HN:Hid (fixGo k [] (L.take 8)=none):=Lib.hid (by rw[HG.out,HST.out,if_pos rfl]);have HR:=Lib.hid (HFa.out HN.out);clear HST HG
     go_wp2
     go_ret
     rw[HR.out];exact ⟨none,0,rfl,World.ownsRow_nil _ _ _ _,(hk.trans hk2).alloc _⟩
    have h0I:((q:Int) == 0)=false:=by simp;omega
    have HST2:Hid (fixGo k out ((L.take 8).drop j)=if (getL out q).isSome&&!oftenB q k then fixGo k out ((L.take 8).drop (j+1)) else fixGo k (out++[⟨q,N,A,B⟩]) ((L.take 8).drop (j+1))):=Lib.hid (by rw[HST.out,if_neg h0]);have HGE:Hid (∀ (a:Option Addr) (c:Nat),∃ i n A B,∃ s,s=(getL out q).isSome∧∀ w,Row w a (PC out)→Calls Tryz.prog 61 #[.slice a out.length c,.int .u8 q] w (fun e w'=>e=.returned (.tuple #[.agg #[.int .u8 (i:Nat),.int .u32 (n:Nat),.string A,.string B],.bool s])∧Kept No w w')):=Lib.hid (fun a c=>rget_parts a c out q q rfl (by omega));have HOF:=Lib.hid (fun wx=>roften_any q k wx HQ.out);clear HST h0;have hbx:=Blk.new w2 123 #[.int .u8 q,.int .u32 N,.string A,.string B];have hka:Kept No w2 (w2.alloc (.cells #[.int .u8 q,.int .u32 N,.string A,.string B] 123)):=(Kept.refl No w2).alloc _;obtain ⟨gi,gn,gA,gB,gs,hgs,HGC⟩:=HGE.out ao co;have HGC:=Lib.hid HGC;have HGS:=Lib.hid hgs;clear hgs HGE
    go_wp2_with fail
    generalize hg7:w2.heap.size=g7 at *;generalize w2.alloc (.cells #[.int .u8 q,.int .u32 N,.string A,.string B] 123)=wa at *;have hown3:=own_keptNo hown2 hka
    go_at_call 61
    refine (HGC.out wa (own_row hown3).1).mono ?_;rintro e w3 ⟨rfl,hk3⟩;have hb0:=(hbx.kept hk3 (fun f=>f)).cell 0;simp at hb0;have hown4:=own_keptNo hown3 hk3;have hbx3:=(hbx.kept hk3 (fun f=>f)).alloc (.cells #[.int .u8 gi,.int .u32 gn,.string gA,.string gB] 123);have hkb:Kept No w3 (w3.alloc (.cells #[.int .u8 gi,.int .u32 gn,.string gA,.string gB] 123)):=(Kept.refl No w3).alloc _;have hown5:=own_keptNo hown4 hkb;have hkall:=(((hk.trans hk2).trans hka).trans hk3).trans hkb;have hza:=hka.size;have hz3:=hk3.size;have hzb:=hkb.size;cases gs with
    | false =>
     have HNX:Hid (fixGo k [] (L.take 8)=fixGo k (out++[⟨q,N,A,B⟩]) ((L.take 8).drop (j+1))):=Lib.hid (by rw[HG.out,HST2.out,← HGS.out];rfl);clear HST2 HGS HG HOF hown hown2 hown3 hown4 hk hk2 hka hk3 hkb hbx;have b0:(w3.alloc (.cells #[.int .u8 gi,.int .u32 gn,.string gA,.string gB] 123)).cell? ⟨g7,0,none⟩=some (.int .u8 q):=hbx3.cell 0;have b1:(w3.alloc (.cells #[.int .u8 gi,.int .u32 gn,.string gA,.string gB] 123)).cell? ⟨g7,1,none⟩=some (.int .u32 N):=hbx3.cell 1;have b2:(w3.alloc (.cells #[.int .u8 gi,.int .u32 gn,.string gA,.string gB] 123)).cell? ⟨g7,2,none⟩=some (.string A):=hbx3.cell 2;have b3:(w3.alloc (.cells #[.int .u8 gi,.int .u32 gn,.string gA,.string gB] 123)).cell? ⟨g7,3,none⟩=some (.string B):=hbx3.cell 3
     go_wp2_with (at_builtin;refine wpList_append_own _ rfl _ _ _ rfl w.heap.size 123 i0 _ 4 40 Tryz.underlying36 hi hz0 hz1 hz2 rfl (by decide) _ _ _ rfl (hown5.alloc _) ⟨w3.heap.size+1,0,none⟩ 1 1 (PC [⟨q,N,A,B⟩]) rfl ?c0 ?c1 (PC_cell1 _) ?c2 ?c3 ?c4 ?_;rotate_right;intro v3 w4 hown6 hg4 _)
     case c0=>exact PC_length4 [] _
     case c1 =>
      have:=new_prop (w:=(w3.alloc (.cells #[.int .u8 gi,.int .u32 gn,.string gA,.string gB] 123))) (t:=123) (p:=⟨q,N,A,B⟩)
      rw[World.size_alloc]at this;exact this
     case c2=>unfold maxLen;omega
     case c3=>omega
     case c4=>have:=hkall.size;rw[World.size_alloc]at this;simp;omega
     go_roundw
     case rel=>exact ⟨j+1,out++[⟨q,N,A,B⟩],by go_num,by omega,by omega,by simp;omega,HNX,by rw[PC_append,List.length_append];exact hown6,(hkall.alloc _).grown hg4 (own_no hown5)⟩
     case measure=>simp[intOf];omega
    | true =>
     rcases hof:oftenB q k with _|_
     ·have HNX:Hid (fixGo k [] (L.take 8)=fixGo k out ((L.take 8).drop (j+1))):=Lib.hid (by rw[HG.out,HST2.out,← HGS.out,hof];rfl)
      rw[hof]at HOF;clear HST2 HGS HG hof hown hown2 hown3 hown4 hk hk2 hka hk3 hkb hbx;have b0:(w3.alloc (.cells #[.int .u8 gi,.int .u32 gn,.string gA,.string gB] 123)).cell? ⟨g7,0,none⟩=some (.int .u8 q):=hbx3.cell 0;have b1:(w3.alloc (.cells #[.int .u8 gi,.int .u32 gn,.string gA,.string gB] 123)).cell? ⟨g7,1,none⟩=some (.int .u32 N):=hbx3.cell 1;have b2:(w3.alloc (.cells #[.int .u8 gi,.int .u32 gn,.string gA,.string gB] 123)).cell? ⟨g7,2,none⟩=some (.string A):=hbx3.cell 2;have b3:(w3.alloc (.cells #[.int .u8 gi,.int .u32 gn,.string gA,.string gB] 123)).cell? ⟨g7,3,none⟩=some (.string B):=hbx3.cell 3
      go_wp2_with (go_at_call 124;refine (HOF.out _).mono ?_;rintro e w5 ⟨rfl,hk5⟩)
      go_roundw
      case rel=>exact ⟨j+1,out,by go_num,by omega,by omega,by omega,HNX,own_keptNo hown5 hk5,hkall.trans hk5⟩
      case measure=>simp[intOf];omega
     ·have HNX:Hid (fixGo k [] (L.take 8)=fixGo k (out++[⟨q,N,A,B⟩]) ((L.take 8).drop (j+1))):=Lib.hid (by rw[HG.out,HST2.out,← HGS.out,hof];rfl)
      rw[hof]at HOF;clear HST2 HGS HG hof hown hown2 hown3 hown4 hk hk2 hka hk3 hkb hbx;have b0:(w3.alloc (.cells #[.int .u8 gi,.int .u32 gn,.string gA,.string gB] 123)).cell? ⟨g7,0,none⟩=some (.int .u8 q):=hbx3.cell 0;have b1:(w3.alloc (.cells #[.int .u8 gi,.int .u32 gn,.string gA,.string gB] 123)).cell? ⟨g7,1,none⟩=some (.int .u32 N):=hbx3.cell 1;have b2:(w3.alloc (.cells #[.int .u8 gi,.int .u32 gn,.string gA,.string gB] 123)).cell? ⟨g7,2,none⟩=some (.string A):=hbx3.cell 2;have b3:(w3.alloc (.cells #[.int .u8 gi,.int .u32 gn,.string gA,.string gB] 123)).cell? ⟨g7,3,none⟩=some (.string B):=hbx3.cell 3
      go_wp2_with (first
       | (go_at_call 124;refine (HOF.out _).mono ?_;rintro e w5 ⟨rfl,hk5⟩;have d0:w5.cell? ⟨g7,0,none⟩=some (.int .u8 q):=(hbx3.kept hk5 (fun f=>f)).cell 0;have d1:w5.cell? ⟨g7,1,none⟩=some (.int .u32 N):=(hbx3.kept hk5 (fun f=>f)).cell 1;have d2:w5.cell? ⟨g7,2,none⟩=some (.string A):=(hbx3.kept hk5 (fun f=>f)).cell 2;have d3:w5.cell? ⟨g7,3,none⟩=some (.string B):=(hbx3.kept hk5 (fun f=>f)).cell 3;have hown5b:=own_keptNo hown5 hk5)
       | (at_builtin;refine wpList_append_own _ rfl _ _ _ rfl w.heap.size 123 i0 _ 4 40 Tryz.underlying36 hi hz0 hz1 hz2 rfl (by decide) _ _ _ rfl (hown5b.alloc _) ⟨w5.heap.size,0,none⟩ 1 1 (PC [⟨q,N,A,B⟩]) rfl ?c0 ?c1 (PC_cell1 _) ?c2 ?c3 ?c4 ?_;rotate_right;intro v3 w4 hown6 hg4 _))
      case c0=>exact PC_length4 [] _
      case c1=>exact new_prop (p:=⟨q,N,A,B⟩)
      case c2=>unfold maxLen;omega
      case c3=>omega
      case c4=>have:=(hkall.trans hk5).size;simp;omega
      go_roundw
      case rel=>exact ⟨j+1,out++[⟨q,N,A,B⟩],by go_num,by omega,by omega,by simp;omega,HNX,by rw[PC_append,List.length_append];exact hown6,((hkall.trans hk5).alloc _).grown hg4 (own_no hown5b)⟩
      case measure=>simp[intOf];omega
   ·have h8I:¬ (j:Int) < 8:=by omega
    have HFN:Hid (RES=sortL (addM out)):=Lib.hid (HF6.out out (by rw[HG.out,List.drop_eq_nil_of_le (by rw[List.length_take];omega)];rfl));have HPA:=Lib.hid (rget_parts ao co out 22 22 rfl (by omega));obtain ⟨e1,e2,e3,e4,s22,hs22,HGD⟩:=HPA.out;have HGD:=Lib.hid HGD;have HPB:=Lib.hid (rget_parts ao co out 21 21 rfl (by omega));obtain ⟨f1,f2,f3,f4,s21,hs21,HGM⟩:=HPB.out;have HGM:=Lib.hid HGM;have HAD:Hid (addM out=if s22&&!s21 then out++[m21] else out):=Lib.hid (by unfold addM;rw[hs22,hs21]);clear hs22 hs21 HPA HPB HG HF6
    go_wp2_with fail
    go_at_call 61
    refine (HGD.out wr hro).mono ?_;rintro e x1 ⟨rfl,j1⟩;have own1:=own_keptNo (own_keptNo hown j1) ((Kept.refl No x1).alloc (.cells #[.int .u8 e1,.int .u32 e2,.string e3,.string e4] 123));have jj1:=(hk.trans j1).alloc (.cells #[.int .u8 e1,.int .u32 e2,.string e3,.string e4] 123);cases s22 with
    | false =>
     have HE:Hid (RES=sortL out):=Lib.hid (by rw[HFN.out,HAD.out];rfl)
     go_wp2_with fail
     generalize x1.alloc (.cells #[.int .u8 e1,.int .u32 e2,.string e3,.string e4] 123)=x2 at *
     go_at_call 62
     refine (rsort_own ao co out x2 (own_row own1).1 hno (by omega)).mono ?_;rintro e x3 ⟨a9,c9,rfl,h5,h6⟩
     go_wp2_with fail
     go_ret
     rw[HE.out];exact ⟨a9,c9,by rw[sortL_length];first|rfl|skip,by rw[sortL_length];exact own_mono h5 jj1.size,jj1.trans h6⟩
    | true =>
     go_wp2_with fail
     generalize x1.alloc (.cells #[.int .u8 e1,.int .u32 e2,.string e3,.string e4] 123)=x2 at *
     go_at_call 61
     refine (HGM.out x2 (own_row own1).1).mono ?_;rintro e x3 ⟨rfl,j3⟩;have own3:=own_keptNo (own_keptNo own1 j3) ((Kept.refl No x3).alloc (.cells #[.int .u8 f1,.int .u32 f2,.string f3,.string f4] 123));have jj3:=(jj1.trans j3).alloc (.cells #[.int .u8 f1,.int .u32 f2,.string f3,.string f4] 123);cases s21 with
     | true =>
      have HE:Hid (RES=sortL out):=Lib.hid (by rw[HFN.out,HAD.out];rfl)
      go_wp2_with fail
      generalize x3.alloc (.cells #[.int .u8 f1,.int .u32 f2,.string f3,.string f4] 123)=x4 at *
      go_at_call 62
      refine (rsort_own ao co out x4 (own_row own3).1 hno (by omega)).mono ?_;rintro e x5 ⟨a9,c9,rfl,h5,h6⟩
      go_wp2_with fail
      go_ret
      rw[HE.out];exact ⟨a9,c9,by rw[sortL_length];first|rfl|skip,by rw[sortL_length];exact own_mono h5 jj3.size,jj3.trans h6⟩
     | false =>
      have HE:Hid (RES=sortL (out++[m21])):=Lib.hid (by rw[HFN.out,HAD.out];rfl)
      go_wp2_with fail
      generalize x3.alloc (.cells #[.int .u8 f1,.int .u32 f2,.string f3,.string f4] 123)=x4 at *
      go_at_call 57
      refine (fix_any ⟨#[109]⟩ x4 (by decide)).mono ?_;rintro e x5 ⟨rfl,j5⟩;have own5:=own_keptNo own3 j5;have jj5:=jj3.trans j5;generalize hfm:fixS ⟨#[109]⟩=FM at *;have HFM:=Lib.hid hfm;clear hfm
      go_wp2_with (at_builtin;refine wpList_append_own _ rfl _ _ _ rfl w.heap.size 123 i0 _ 4 40 Tryz.underlying36 hi hz0 hz1 hz2 rfl (by decide) _ _ _ rfl (own5.alloc _) ⟨x5.heap.size,0,none⟩ 1 1 (PC [⟨21,0,FM,⟨#[]⟩⟩]) rfl ?c0 ?c1 (PC_cell1 _) ?c2 ?c3 ?c4 ?_;rotate_right;intro v3 x6 own6 hg6 _)
      case c0=>exact PC_length4 [] _
      case c1=>exact new_prop (p:=⟨21,0,FM,⟨#[]⟩⟩)
      case c2=>unfold maxLen;omega
      case c3=>omega
      case c4=>have:=jj5.size;simp;omega
      have jj6:=(jj5.alloc _).grown hg6 (own_no own5);rw[← PC_append]at own6;have HM:Hid (out++[⟨21,0,FM,⟨#[]⟩⟩]=out++[m21]):=Lib.hid (by rw[← HFM.out];rfl);rw[HM.out]at own6;obtain ⟨a7,c7,rfl,hr7,hn7⟩:=own_form own6;have hl7:out.length+1=(out++[m21]).length:=by simp
      have HS7:=Lib.hid (rsort_own a7 c7 (out++[m21]) x6 hr7 (fun h=>by rw[← hl7];exact hn7 h) (by rw[← hl7];omega));rw[← hl7]at HS7
      go_wp2_with fail
      go_at_call 62
      refine HS7.out.mono ?_;rintro e x7 ⟨a9,c9,rfl,h5,h6⟩;dsimp only
      go_wp2_with fail
      go_ret
      rw[HE.out];exact ⟨a9,c9,by rw[sortL_length,← hl7];first|rfl|skip,by rw[sortL_length,← hl7];exact own_mono h5 jj6.size,jj6.trans h6⟩
  ·have hltI:¬ (j:Int) < (L.length:Int):=by omega
   have HFN:Hid (RES=sortL (addM out)):=Lib.hid (HF6.out out (by rw[HG.out,List.drop_eq_nil_of_le (by rw[List.length_take];omega)];rfl));have HPA:=Lib.hid (rget_parts ao co out 22 22 rfl (by omega));obtain ⟨e1,e2,e3,e4,s22,hs22,HGD⟩:=HPA.out;have HGD:=Lib.hid HGD;have HPB:=Lib.hid (rget_parts ao co out 21 21 rfl (by omega));obtain ⟨f1,f2,f3,f4,s21,hs21,HGM⟩:=HPB.out;have HGM:=Lib.hid HGM;have HAD:Hid (addM out=if s22&&!s21 then out++[m21] else out):=Lib.hid (by unfold addM;rw[hs22,hs21]);clear hs22 hs21 HPA HPB HG HF6
   go_wp2_with fail
   go_at_call 61
   refine (HGD.out wr hro).mono ?_;rintro e x1 ⟨rfl,j1⟩;have own1:=own_keptNo (own_keptNo hown j1) ((Kept.refl No x1).alloc (.cells #[.int .u8 e1,.int .u32 e2,.string e3,.string e4] 123));have jj1:=(hk.trans j1).alloc (.cells #[.int .u8 e1,.int .u32 e2,.string e3,.string e4] 123);cases s22 with
   | false =>
    have HE:Hid (RES=sortL out):=Lib.hid (by rw[HFN.out,HAD.out];rfl)
    go_wp2_with fail
    generalize x1.alloc (.cells #[.int .u8 e1,.int .u32 e2,.string e3,.string e4] 123)=x2 at *
    go_at_call 62
    refine (rsort_own ao co out x2 (own_row own1).1 hno (by omega)).mono ?_;rintro e x3 ⟨a9,c9,rfl,h5,h6⟩
    go_wp2_with fail
    go_ret
    rw[HE.out];exact ⟨a9,c9,by rw[sortL_length];first|rfl|skip,by rw[sortL_length];exact own_mono h5 jj1.size,jj1.trans h6⟩
   | true =>
    go_wp2_with fail
    generalize x1.alloc (.cells #[.int .u8 e1,.int .u32 e2,.string e3,.string e4] 123)=x2 at *
    go_at_call 61
    refine (HGM.out x2 (own_row own1).1).mono ?_;rintro e x3 ⟨rfl,j3⟩;have own3:=own_keptNo (own_keptNo own1 j3) ((Kept.refl No x3).alloc (.cells #[.int .u8 f1,.int .u32 f2,.string f3,.string f4] 123));have jj3:=(jj1.trans j3).alloc (.cells #[.int .u8 f1,.int .u32 f2,.string f3,.string f4] 123);cases s21 with
    | true =>
     have HE:Hid (RES=sortL out):=Lib.hid (by rw[HFN.out,HAD.out];rfl)
     go_wp2_with fail
     generalize x3.alloc (.cells #[.int .u8 f1,.int .u32 f2,.string f3,.string f4] 123)=x4 at *
     go_at_call 62
     refine (rsort_own ao co out x4 (own_row own3).1 hno (by omega)).mono ?_;rintro e x5 ⟨a9,c9,rfl,h5,h6⟩
     go_wp2_with fail
     go_ret
     rw[HE.out];exact ⟨a9,c9,by rw[sortL_length];first|rfl|skip,by rw[sortL_length];exact own_mono h5 jj3.size,jj3.trans h6⟩
    | false =>
     have HE:Hid (RES=sortL (out++[m21])):=Lib.hid (by rw[HFN.out,HAD.out];rfl)
     go_wp2_with fail
     generalize x3.alloc (.cells #[.int .u8 f1,.int .u32 f2,.string f3,.string f4] 123)=x4 at *
     go_at_call 57
     refine (fix_any ⟨#[109]⟩ x4 (by decide)).mono ?_;rintro e x5 ⟨rfl,j5⟩;have own5:=own_keptNo own3 j5;have jj5:=jj3.trans j5;generalize hfm:fixS ⟨#[109]⟩=FM at *;have HFM:=Lib.hid hfm;clear hfm
     go_wp2_with (at_builtin;refine wpList_append_own _ rfl _ _ _ rfl w.heap.size 123 i0 _ 4 40 Tryz.underlying36 hi hz0 hz1 hz2 rfl (by decide) _ _ _ rfl (own5.alloc _) ⟨x5.heap.size,0,none⟩ 1 1 (PC [⟨21,0,FM,⟨#[]⟩⟩]) rfl ?c0 ?c1 (PC_cell1 _) ?c2 ?c3 ?c4 ?_;rotate_right;intro v3 x6 own6 hg6 _)
     case c0=>exact PC_length4 [] _
     case c1=>exact new_prop (p:=⟨21,0,FM,⟨#[]⟩⟩)
     case c2=>unfold maxLen;omega
     case c3=>omega
     case c4=>have:=jj5.size;simp;omega
     have jj6:=(jj5.alloc _).grown hg6 (own_no own5);rw[← PC_append]at own6;have HM:Hid (out++[⟨21,0,FM,⟨#[]⟩⟩]=out++[m21]):=Lib.hid (by rw[← HFM.out];rfl);rw[HM.out]at own6;obtain ⟨a7,c7,rfl,hr7,hn7⟩:=own_form own6;have hl7:out.length+1=(out++[m21]).length:=by simp
     have HS7:=Lib.hid (rsort_own a7 c7 (out++[m21]) x6 hr7 (fun h=>by rw[← hl7];exact hn7 h) (by rw[← hl7];omega));rw[← hl7]at HS7
     go_wp2_with fail
     go_at_call 62
     refine HS7.out.mono ?_;rintro e x7 ⟨a9,c9,rfl,h5,h6⟩;dsimp only
     go_wp2_with fail
     go_ret
     rw[HE.out];exact ⟨a9,c9,by rw[sortL_length,← hl7];first|rfl|skip,by rw[sortL_length,← hl7];exact own_mono h5 jj6.size,jj6.trans h6⟩
end Go.Proofs.YtohmcfmcbibbcaaGreatDoor
