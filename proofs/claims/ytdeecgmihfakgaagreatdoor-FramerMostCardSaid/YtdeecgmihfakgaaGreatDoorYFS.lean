import Derived.Test.YtdeecgmihfakgaaGreatDoorYF8
import Derived.Test.YtdeecgmihfakgaaGreatDoorYF9
import Derived.Test.YtdeecgmihfakgaaGreatDoorYFR
import Derived.Test.YtdeecgmihfakgaaGreatDoorYFJ
namespace Go.Proofs.YtdeecgmihfakgaaGreatDoor
open Go.RowKit
set_option linter.unusedVariables false
set_option linter.unusedSimpArgs false
set_option maxRecDepth 100000
def RTakeIs (R:List Pr × Bool) (l2:List UInt8) (e2:Int) (B:ByteArray) (w:World) (r:Nat) (e:Ending) (w':World):Prop :=
 ∃ a c,e=.returned (.tuple #[.slice a R.1.length c,.bool R.2])∧Row w' a (PC R.1)∧(a=none→R.1.length=0∧c=0)∧RAfter w w' r B l2 e2
theorem takeSec_len (l:List UInt8) (e:Int):(takeSec l e).length≤l.length:=by
 have h1:=(rv_suf 4 0 0 l e).length_le;unfold takeSec taken
 split
 ·rw[List.length_take];omega
 ·simp
set_option maxHeartbeats 4000000 in
theorem rtake6_any (w:World) (r:Nat) (B:ByteArray) (l:List UInt8) (err:Int) (h:RefR w r B l err) (hl:l.length≤100000) :
  Calls Tryz.prog 132 #[.pointer (some ⟨r,0,none⟩)] w (RTakeIs (takeR l err) (takeLeft l err) (takeErr l err) B w r):=by
 have hv32:(rv 4 0 0 l err).1 < 4294967296:=by have:=rv_lt 4 0 0 l err (by decide);omega
 have hsl:=takeSec_len l err;have HV:=Lib.hid (refvar_any w r B l err h);have HS:=Lib.hid (fun wx (hx:RefR wx r B (rv 4 0 0 l err).2.1 (rv 4 0 0 l err).2.2)=>refsub_any wx r B _ _ (rv 4 0 0 l err).1 hx);have hTS:takeSec l err=taken (rv 4 0 0 l err).1 (rv 4 0 0 l err).2.1 (rv 4 0 0 l err).2.2:=rfl;have hTL:takeLeft l err=leftL (rv 4 0 0 l err).1 (rv 4 0 0 l err).2.1 (rv 4 0 0 l err).2.2:=rfl;have hTE:takeErr l err=leftE (rv 4 0 0 l err).1 (rv 4 0 0 l err).2.1 (rv 4 0 0 l err).2.2:=rfl;rw[← hTS,← hTL,← hTE]at HS;clear hTS hTL hTE;generalize hR:takeR l err=R;unfold takeR at hR;generalize takeSec l err=sec at *;generalize takeLeft l err=l2 at *;generalize takeErr l err=e2 at *;generalize rv 4 0 0 l err=VV at *;obtain ⟨n,l1,e1⟩:=VV;dsimp only at HS hv32;unfold RrvIs at HV;dsimp only at HV;have HR:=Lib.hid hR;clear hR h;have hnI:(n:Int) < 4294967296:=by omega
 go_enter Tryz.func132,Tryz.ntmps132
 go_wp2_with fail
 go_at_call 129
 refine HV.out.mono ?_;rintro e w1 ⟨rfl,ha1⟩
 go_wp2_with fail
 go_at_call 170
 refine (HS.out w1 ha1.rdr).mono ?_;rintro e w2 ⟨s,B',rfl,hs,hrs,ha2⟩;obtain ⟨at_,q0,q1,q2⟩:=ha2.rdr.cells;have hk2:Kept (One r) w w2:=ha1.kept.trans ha2.kept;have hz1:=ha1.kept.size;have hrlt:=ha1.rdr.lt
 by_cases he:e2=0
 case neg =>
  have heN:(e2 != 0)=true:=by simpa using he
  have HR0:Hid (R=([],false)):=Lib.hid (by rw[← HR.out,if_neg he]);have heE:(e2 == 0)=false:=by simpa using he
  clear he
  go_wp2
  go_ret2
  exact ⟨none,0,by rw[HR0.out];rfl,by rw[HR0.out];exact .nil _ _,fun _=>by rw[HR0.out];exact ⟨rfl,rfl⟩,ha2.rdr,hk2⟩
 subst he;rw[if_pos rfl]at HR;have HRS:=Lib.hid (refrest_any w2 s B' sec 0 hrs);have HEA:=Lib.hid (fun wx=>reach_any wx ⟨sec.toArray⟩ (by rw[ba_size];omega));have hne:s≠r:=by omega
 unfold REachIs at HEA;dsimp only at HEA;have hell:=each_len sec.length sec;have hel:(eachL sec).1.length≤sec.length:=hell;generalize hE:eachL sec=E at *;obtain ⟨L,ok⟩:=E;dsimp only at HR HEA hel;clear hE hell;cases ok with
 | false =>
  have HR0:Hid (R=([],false)):=Lib.hid (by rw[← HR.out];rfl);clear HR
  go_wp2_with (first
   | (go_at_call 83;refine HRS.out.mono ?_;rintro e w3 ⟨rfl,ha3⟩)
   | (go_at_call 171;refine (HEA.out _).mono ?_;rintro e w4 ⟨a4,c4,rfl,hown4,hk4⟩))
  go_ret2
  have hk3:Kept No w2 w4→True:=fun _=>trivial
  refine ⟨none,0,by rw[HR0.out];rfl,by rw[HR0.out];exact .nil _ _,fun _=>by rw[HR0.out];exact ⟨rfl,rfl⟩,(ha2.rdr.kept ha3.kept (fun e=>hne e.symm)).kept hk4 (fun f=>f),?_⟩;exact (hk2.then ha3.kept (fun i hi e=>by have:i=s:=e;omega)).trans hk4.any
 | true =>
  have HR0:Hid (R=(sortL L,true)):=Lib.hid (by rw[← HR.out];rfl);clear HR
  go_wp2_with fail
  go_at_call 83
  refine HRS.out.mono ?_;rintro e w3 ⟨rfl,ha3⟩
  go_wp2_with fail
  go_at_call 171
  refine (HEA.out _).mono ?_;rintro e w4 ⟨a4,c4,rfl,hown4,hk4⟩;obtain ⟨hr4,hn4⟩:=own_row hown4
  go_wp2_with fail
  go_at_call 45
  refine (rsort_any a4 c4 L w4 hr4 hn4 (by omega)).mono ?_;rintro e w5 ⟨a5,c5,rfl,hown5,hk5⟩;obtain ⟨hr5,hn5⟩:=own_row hown5
  go_wp2
  go_ret2
  refine ⟨a5,c5,by rw[HR0.out];first|rfl|simp[sortL_length],by rw[HR0.out];exact hr5,by rw[HR0.out];exact hn5,((ha2.rdr.kept ha3.kept (fun e=>hne e.symm)).kept hk4 (fun f=>f)).kept hk5 (fun f=>f),?_⟩;exact ((hk2.then ha3.kept (fun i hi e=>by have:i=s:=e;omega)).trans hk4.any).trans hk5.any
def fxP (k:Int) (p:Pr):Pr:=⟨fxId p.id k,fxN (fxId p.id k) p.n,fxA (fxId p.id k) p.a,fxB (fxId p.id k) p.b⟩
def fixGo (k:Int):List Pr→List Pr→Option (List Pr)
 | out,[]=>some out
 | out,p :: t=>if (fxP k p).id=0 then none else if (getL out (fxP k p).id).isSome&&!oftenB (fxP k p).id k then fixGo k out t else fixGo k (out++[fxP k p]) t
def m21:Pr:=⟨21,0,fixS ⟨#[109]⟩,⟨#[]⟩⟩
def addM (out:List Pr):List Pr:=if (getL out 22).isSome&&!(getL out 21).isSome then out++[m21] else out
def fix6 (L:List Pr) (k:Int):List Pr:=match fixGo k [] (L.take 8) with|none=>[]|some out=>sortL (addM out)
structure FixOk (k:Int) (out:List Pr):Prop where
 val:∀ p∈out,valueB p.id p.n p.a p.b=true∧forB p.id k=true∧p.id < 256∧p.n < 4294967296∧p.a.size≤32∧p.b.size≤32
 once:∀ i,2≤(idf i out).length→oftenB i k=true
theorem fxA_small (q:Nat) (a:ByteArray):(fxA q a).size≤32:=by
 unfold fxA;have h1:=fixS_len a;have h2:=cut9_len a;have h3:=(made_fix a).size.2
 repeat' split
 all_goals first|omega|(show (⟨#[]⟩:ByteArray).size≤32;decide)
theorem fxB_small (q:Nat) (b:ByteArray):(fxB q b).size≤32:=by
 unfold fxB;have h1:=fixS_len b
 split
 ·omega
 ·show (⟨#[]⟩:ByteArray).size≤32
  decide
theorem fxN_small (q n:Nat) (h:n < 4294967296):fxN q n < 4294967296:=by
 unfold fxN
 repeat' split
 all_goals omega
theorem getL_idf:∀ (L:List Pr) (i:Nat),(getL L i).isSome=true↔0 < (idf i L).length
 | [],i=>by simp[getL,idf]
 | p :: t,i=>by
  by_cases h:p.id=i
  ·rw[idf_pos h]
   simp[getL,h]
  ·rw[idf_neg h,← getL_idf t i]
   simp[getL,h]
theorem fxP_in {k:Int} {p:Pr} (h:(fxP k p).id≠0):fxId p.id k∈idsL k:=by
 by_cases h0:idsL k=[]
 ·exfalso
  apply h;show fxId p.id k=0;unfold fxId;rw[h0]
  rfl
 ·exact fxId_mem h0
theorem fxP_ok {k:Int} {p:Pr} (hn:p.n < 4294967296) (h:(fxP k p).id≠0):valueB (fxP k p).id (fxP k p).n (fxP k p).a (fxP k p).b=true∧forB (fxP k p).id k=true∧(fxP k p).id < 256∧(fxP k p).n < 4294967296∧(fxP k p).a.size≤32∧(fxP k p).b.size≤32:=by
 obtain ⟨h1,h2,h3,h4,h5⟩:=idsL_mem (fxP_in h);exact ⟨fx_value _ _ _ _ hn h2 h3,h5,h2,fxN_small _ _ hn,fxA_small _ _,fxB_small _ _⟩
theorem fixGo_ok {k:Int}:∀ (L out R:List Pr),(∀ p∈L,p.n < 4294967296)→FixOk k out→fixGo k out L=some R→FixOk k R∧R.length≤out.length+L.length
 | [],out,R,_,ho,h=>by
  injection h with h;subst h;exact ⟨ho,by simp⟩
 | p :: t,out,R,hw,ho,h=>by
  unfold fixGo at h
  by_cases h0:(fxP k p).id=0
  ·rw[if_pos h0]at h;cases h
  rw[if_neg h0]at h
  by_cases h1:((getL out (fxP k p).id).isSome&&!oftenB (fxP k p).id k)=true
  ·rw[if_pos h1]at h
   obtain ⟨q1,q2⟩:=fixGo_ok t out R (fun x hx=>hw x (by simp[hx])) ho h;exact ⟨q1,by simp;omega⟩
  ·rw[if_neg h1]at h
   have hp:=fxP_ok (k:=k) (hw p (by simp)) h0
   obtain ⟨q1,q2⟩:=fixGo_ok t (out++[fxP k p]) R (fun x hx=>hw x (by simp[hx])) ⟨fun x hx=>by
    rcases List.mem_append.1 hx with hx|hx
    ·exact ho.val x hx
    ·rw[List.mem_singleton.1 hx];exact hp,fun i hi=>by
    rw[idf_append,List.length_append]at hi
    by_cases he:(fxP k p).id=i
    ·by_cases ho2:oftenB i k=true
     ·exact ho2
     ·exfalso
      apply h1;rw[he,Bool.and_eq_true];refine ⟨(getL_idf out i).2 ?_,by simpa using ho2⟩;rw[idf_pos he,show idf i ([]:List Pr)=[] from rfl]at hi;simp at hi;omega
    ·rw[idf_neg he,show idf i ([]:List Pr)=[] from rfl]at hi
     exact ho.once i (by simpa using hi)⟩ h
   exact ⟨q1,by simp at q2 ⊢;omega⟩
theorem for21:∀ (k:Int),forB 22 k=true→forB 21 k=true:=by
 intro k h;unfold forB at h ⊢;have e1:kindsL 22=kindsL 21:=by decide
 rwa [e1]at h
theorem addM_ok {k:Int} {out:List Pr} (h:FixOk k out):FixOk k (addM out)∧(addM out).length≤out.length+1∧((getL (addM out) 21).isSome||!(getL (addM out) 22).isSome)=true:=by
 unfold addM
 by_cases hc:((getL out 22).isSome&&!(getL out 21).isSome)=true
 ·rw[if_pos hc]
  rw[Bool.and_eq_true]at hc;have hpos:=(getL_idf out 22).1 hc.1
  obtain ⟨x,hx⟩:∃ x,x∈idf 22 out:=by
   cases hh:idf 22 out with
   | nil=>rw[hh]at hpos;simp at hpos
   | cons x t=>exact ⟨x,by simp⟩
  have hxo:x∈out:=(List.mem_filter.1 hx).1;have hxi:x.id=22:=by simpa using (List.mem_filter.1 hx).2
  have hf:=(h.val x hxo).2.1;rw[hxi]at hf;have h21:(getL out 21).isSome=false:=by simpa using hc.2
  have hz:(idf 21 out).length=0:=by
   rcases Nat.eq_zero_or_pos (idf 21 out).length with q|q
   ·exact q
   ·rw[(getL_idf out 21).2 q]at h21;cases h21
  refine ⟨⟨fun p hp=>?_,fun i hi=>?_⟩,by simp,?_⟩
  ·rcases List.mem_append.1 hp with hp|hp
   ·exact h.val p hp
   ·rw[List.mem_singleton.1 hp]
    refine ⟨?_,for21 k hf,by decide,by decide,by have:=fixS_len ⟨#[109]⟩;show (fixS ⟨#[109]⟩).size≤32;omega,by show (⟨#[]⟩:ByteArray).size≤32;decide⟩;exact fx_value 21 0 ⟨#[109]⟩ ⟨#[]⟩ (by decide) (by decide) (by decide)
  ·rw[idf_append,List.length_append]at hi
   by_cases he:i=21
   ·subst he
    rw[hz,idf_pos (i:=21) (p:=m21) (L:=[]) rfl,show idf 21 ([]:List Pr)=[] from rfl]at hi;simp at hi
   ·rw[idf_neg (p:=m21) (fun e=>he e.symm),show idf i ([]:List Pr)=[] from rfl]at hi
    exact h.once i (by simpa using hi)
  ·rw[(getL_idf (out++[m21]) 21).2 (by rw[idf_append,List.length_append,idf_pos (i:=21) (p:=m21) (L:=[]) rfl];simp only[List.length_cons];omega)]
   rfl
 ·rw[if_neg hc]
  refine ⟨h,by omega,?_⟩;cases h1:(getL out 22).isSome<;>cases h2:(getL out 21).isSome<;>rw[h1,h2]at hc<;>simp at hc ⊢
theorem getL_ste {L M:List Pr} (h:Ste L M) (i:Nat):(getL L i).isSome=(getL M i).isSome:=by
 rw[Bool.eq_iff_iff,getL_idf,getL_idf,h i]
theorem chk_srt {k:Int}:∀ (L:List Pr) (q:Option Nat),Srt L→(∀ p∈L,valueB p.id p.n p.a p.b=true∧forB p.id k=true)→(∀ i,2≤(idf i L).length→oftenB i k=true) →
  (∀ x,q=some x→∀ p∈L,x < p.id∨(x=p.id∧oftenB p.id k=true))→chkGo k q L=true
 | [],_,_,_,_,_=>rfl
 | p :: t,q,hs,hv,ho,hq=>by
  have hp:=hv p (by simp)
  have hf:folB k q p.id=true:=by
   cases q with
   | none=>rfl
   | some x =>
    show followsB k x p.id=true;unfold followsB;rcases hq x rfl p (by simp) with h|⟨h1,h2⟩
    ·simp[h]
    ·simp[h1,h2]
  rw[chkGo,hp.1,hp.2,hf];show chkGo k (some p.id) t=true;have hs2:=List.pairwise_cons.1 hs;refine chk_srt t (some p.id) hs2.2 (fun x hx=>hv x (by simp[hx])) (fun i hi=>ho i ?_) (fun x hx z hz=>?_)
  ·by_cases e:p.id=i
   ·rw[idf_pos e];simp;omega
   ·rw[idf_neg e];exact hi
  ·injection hx with hx
   subst hx;have hle:=hs2.1 z hz
   by_cases e:p.id=z.id
   ·right
    refine ⟨e,?_⟩;rw[← e];refine ho p.id ?_;rw[idf_pos rfl]
    have:z∈idf p.id t:=List.mem_filter.2 ⟨hz,by simp[e]⟩
    have:=List.length_pos_of_mem this
    simp;omega
   ·left;omega
theorem fix6_ok (L:List Pr) (k:Int) (hw:∀ p∈L,p.n < 4294967296):checkB k (fix6 L k)=true∧(fix6 L k).length≤9∧Srt (fix6 L k)∧(∀ p∈fix6 L k,p.ok=true∧p.id < 256∧p.n < 4294967296∧p.a.size≤32∧p.b.size≤32):=by
 unfold fix6;rcases hG:fixGo k [] (L.take 8) with _|out
 ·refine ⟨by simp[checkB,chkGo,getL],by simp,Srt.nil,by simp⟩
 ·dsimp only
  obtain ⟨h1,h2⟩:=fixGo_ok (L.take 8) [] out (fun p hp=>hw p (List.mem_of_mem_take hp)) ⟨by simp,by simp[idf]⟩ hG;obtain ⟨g1,g2,g3⟩:=addM_ok h1;have hlen:out.length≤8:=by have:=List.length_take_le 8 L;simp at h2;omega
  have hste:=sortL_ste (addM out);refine ⟨?_,by rw[sortL_length];omega,sortL_srt _,fun p hp=>?_⟩
  ·unfold checkB
   rw[sortL_length,decide_eq_true (by omega),← getL_ste hste 21,← getL_ste hste 22,g3,chk_srt (sortL (addM out)) none (sortL_srt _) (fun p hp=>by have:=g1.val p (sortL_mem.1 hp);exact ⟨this.1,this.2.1⟩) (fun i hi=>g1.once i (by rw[hste i];exact hi)) (fun x hx=>by cases hx)]
   rfl
  ·have:=g1.val p (sortL_mem.1 hp)
   refine ⟨?_,this.2.2⟩;have h9:=this.1;unfold valueB at h9;rw[Bool.and_eq_true]at h9;exact h9.1
def blR (l:List Nat):List UInt8:=l.map UInt8.ofNat
theorem bl_oneR (c:Nat) (h:c < 256):B8 (blR [c])=[.int .u8 c]:=by
 simp[blR,B8,UInt8.toNat_ofNat_of_lt' (show c < UInt8.size from h)]
theorem bl_appendR (l m:List Nat):blR (l++m)=blR l++blR m:=by simp[blR]
def Fl (l:List (Nat × Nat)) (j:Nat):List UInt8:=blR ((List.range j).filter (knownB l))
theorem Fl_yes (l:List (Nat × Nat)) (j:Nat) (h:knownB l j=true):Fl l (j+1)=Fl l j++blR [j]:=by
 unfold Fl;rw[List.range_succ,List.filter_append,bl_appendR];simp[h]
theorem Fl_no (l:List (Nat × Nat)) (j:Nat) (h:knownB l j=false):Fl l (j+1)=Fl l j:=by
 unfold Fl;rw[List.range_succ,List.filter_append,bl_appendR];simp[h,blR]
def Gives (w:World) (l:List UInt8) (e:Ending) (w':World):Prop :=
 ∃ v,e=.returned v∧w'.ownsRow w.heap.size 5 1 v l.length (B8 l)∧Kept No w w'
theorem gives_of {w w':World} {v:Value} {l:List UInt8} {n:Nat} {xs:List Value} (h:w'.ownsRow w.heap.size 5 1 v n xs) (hn:n=l.length) (hx:xs=B8 l) (hk:Kept No w w'):Gives w l (.returned v) w':=by
 subst hn hx;exact ⟨v,rfl,h,hk⟩
theorem own_keptNoR {w w':World} {base:Nat} {e:TypeId} {size n:Nat} {v:Value} {xs:List Value} (h:w.ownsRow base e size v n xs) (hk:Kept No w w'):w'.ownsRow base e size v n xs:=by
 refine ⟨h.1,?_⟩;rcases h.2 with hn|⟨g,cap,cur,hv,hb,hg,rest⟩
 ·exact .inl hn
 ·exact .inr ⟨g,cap,cur,hv,hb,(hk.block g (Array.getElem?_eq_some_iff.1 hg).1 (fun f=>f)).trans hg,rest⟩
set_option maxRecDepth 100000 in
set_option maxHeartbeats 1000000 in
theorem rall_any (v k:Int) (w:World) :
  Calls Tryz.prog 92 #[.int .i64 v,.int .i64 k] w (Gives w (blR (allL (sp v k)))):=by
 obtain ⟨i0,hi,hz0,hz1,hz2⟩:=info_parts info_u8;have cK:=fun c wx (hc:c < 256)=>rknown_any v k c wx hc
 have hA:Fl (sp v k) 256=blR (allL (sp v k)):=by unfold Fl;rw[all_filter]
 rw[← hA];clear hA;generalize sp v k=l at *;have HK:=Lib.hid cK;clear cK
 go_enter Tryz.func92,Tryz.ntmps92
 go_wp2
 go_loopw [5,6] (fun s i wr=>∃ (j:Nat) (p:List UInt8),i=.int .i64 j∧j≤256∧Hid (p=Fl l j)∧p.length≤j∧wr.ownsRow w.heap.size 5 1 s p.length (B8 p)∧Kept No w wr) (fun _ i _=>256 - (intOf i).toNat)
 case atStart=>exact ⟨0,[],rfl,by omega,Lib.hid rfl,by simp,World.ownsRow_nil _ _ _ _,Kept.refl _ _⟩
 case round =>
  obtain ⟨j,p,rfl,hj,HP,hpl,hown,hk⟩:=hrel;have hsz:=hk.size
  by_cases hlt:j < 256
  ·have hjI:(j:Int) < 256:=by omega
   rcases hY:knownB l j with _|_
   ·have HC:Hid (∀ wx,Calls Tryz.prog 111 #[.int .i64 v,.int .i64 k,.int .u8 j] wx fun e w'=>e=.returned (.bool false)∧Kept No wx w'):=Lib.hid (fun wx=>by have:=HK.out j wx hlt;rw[hY]at this;exact this)
    have HN:=Lib.hid (Fl_no l j hY);clear hY
    go_wp2_with (go_at_call 111;refine (HC.out _).mono ?_;rintro e w1 ⟨rfl,hk1⟩)
    go_roundw
    case rel=>exact ⟨j+1,p,by go_num,by omega,Lib.hid (by rw[HN.out,HP.out]),by omega,own_keptNoR hown hk1,hk.trans hk1⟩
    case measure=>simp[intOf];omega
   ·have HC:Hid (∀ wx,Calls Tryz.prog 111 #[.int .i64 v,.int .i64 k,.int .u8 j] wx fun e w'=>e=.returned (.bool true)∧Kept No wx w'):=Lib.hid (fun wx=>by have:=HK.out j wx hlt;rw[hY]at this;exact this)
    have HN:=Lib.hid (Fl_yes l j hY);clear hY
    go_wp2_with (first
     | (go_at_call 111;refine (HC.out _).mono ?_;rintro e w1 ⟨rfl,hk1⟩;have hown1:=own_keptNoR hown hk1)
     | (at_builtin;refine wpList_append_row _ rfl _ _ _ rfl w.heap.size 5 i0 _ 1 Tryz.underlying25 hi hz0 hz1 hz2 rfl _ _ _ rfl (hown1.alloc _) (some ⟨w1.heap.size,0,none⟩) 1 1 (B8 (blR [j])) rfl ?c1 ?c2 (by simp) (B8_one _) ?c3 ?c4 ?c5 ?_;rotate_right;intro v2 w2 hown2 hg2 hv2))
    case c1=>rw[bl_oneR j hlt];rfl
    case c2=>rw[bl_oneR j hlt];exact .of_cells (new_cells w1 _ _ _ rfl)
    case c3=>unfold maxLen;omega
    case c4=>omega
    case c5=>have:=hk1.size;simp;omega
    go_roundw
    case rel=>exact ⟨j+1,p++blR [j],by go_num,by omega,Lib.hid (by rw[HN.out,HP.out]),by simp[blR];omega,by simpa [B8_append,blR] using hown2,((hk.trans hk1).alloc _).grown hg2 (own_no hown1)⟩
    case measure=>simp[intOf];omega
  ·have hj6:j=256:=by omega
   go_wp2
   go_ret
   exact gives_of hown (by rw[HP.out,hj6]) (by rw[HP.out,hj6]) hk
end Go.Proofs.YtdeecgmihfakgaaGreatDoor
