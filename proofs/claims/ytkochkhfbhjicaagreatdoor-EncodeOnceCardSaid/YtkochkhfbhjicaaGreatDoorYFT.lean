import Derived.Test.YtkochkhfbhjicaaGreatDoorYFS
import Derived.Test.YtkochkhfbhjicaaGreatDoorYFV
import Derived.Test.YtkochkhfbhjicaaGreatDoorYFG
import Derived.Test.YtkochkhfbhjicaaGreatDoorYFO
import Derived.Test.YtkochkhfbhjicaaGreatDoorYFK
namespace Go.Proofs.YtkochkhfbhjicaaGreatDoor
open Go.RowKit
set_option linter.unusedVariables false
set_option linter.unusedSimpArgs false
set_option maxRecDepth 100000
def rfx (v k:Int) (n:Nat):Nat:=(vp (sp v k)).getD (n % (vp (sp v k)).length) 0
theorem zU (v k:Int) (n:Nat):rfx v k n<256:=by
 unfold rfx;rw[List.getD_eq_getElem?_getD];rcases h:(vp (sp v k))[n % (vp (sp v k)).length]? with _|x
 ·simp
 ·obtain ⟨h1,h2⟩:=List.getElem?_eq_some_iff.1 h
  have:=(j3c v k _ h1).2
  simp only[Option.getD_some];omega
theorem j1u {v k:Int} {n:Nat} (h:vp (sp v k)≠[]):ke v k (rfx v k n)=true:=by
 have h0:0<(vp (sp v k)).length:=List.length_pos_iff.2 h;have h1:n % (vp (sp v k)).length<(vp (sp v k)).length:=Nat.mod_lt _ h0;unfold rfx ke;rw[List.getD_eq_getElem?_getD,List.getElem?_eq_getElem h1];exact (j3c v k _ h1).1
theorem jI2 (v k:Int) (n:Nat) (l:List UInt8) (hl:l=blR (vp (sp v k))) (hlt:n % l.length<l.length):l[n % l.length].toNat=rfx v k n:=by
 subst hl;have e:(blR (vp (sp v k))).length=(vp (sp v k)).length:=by simp[blR]
 have h1:n % (vp (sp v k)).length<(vp (sp v k)).length:=by rw[e]at hlt;exact hlt
 have h8:=(j3c v k _ h1).2;unfold rfx;rw[List.getD_eq_getElem?_getD,List.getElem?_eq_getElem h1]
 have h2:((blR (vp (sp v k)))[n % (blR (vp (sp v k))).length]'hlt)=UInt8.ofNat ((vp (sp v k))[n % (vp (sp v k)).length]):=by
  simp[blR]
 rw[h2];simp only[Option.getD_some,UInt8.toNat_ofNat'];omega
theorem jI5 (n:Int) (w:World) (h:0≤n) (h2:n≤255):(convert 5 3 (.int .u8 n)).run Tryz.prog w=.ok (.int .i64 n) w:=by
 have u:=Tryz.underlying3;have u2:=Tryz.underlying5;have e:IntKind.i64.wrap n=n:=jK (by omega) (by omega)
 go_simp
 try exact e
theorem jNc:FN Tryz.prog 26:=jr Tryz.func26 (by kernel_rfl) rfl
theorem xT (v k:Int) (n:Nat) (w:World) (hn:n<256) :
  Calls Tryz.prog 11 #[.int .i64 v,.int .i64 k,.int .u8 n] w λe w'=>e=.returned (.int .u8 (rfx v k n))∧Kept No w w':=by
 obtain ⟨l,hl⟩:∃ l,l=blR (vp (sp v k)):=⟨_,rfl⟩
 have hll:l.length=(vp (sp v k)).length:=by rw[hl];simp[blR]
 have hle:=jHx v k;let RR:Ending→World→Prop:=λe w'=>e=.returned (.int .u8 (rfx v k n))∧Kept No w w'
 go_enter Tryz.func11,Tryz.ntmps11
 generalize hA:({tmps:=_,defers:=[]}:Act)=A;have F:Fr A 22 [(2,(.int .u8 ((n:Int)))),(1,(.int .i64 k)),(0,(.int .i64 v))]:=by rw[← hA];exact (Fr.cons (i:=2) (v:=(.int .u8 ((n:Int)))) (Fr.cons (i:=1) (v:=(.int .i64 k)) (Fr.cons (i:=0) (v:=(.int .i64 v)) (Fr.nil0 rfl rfl) rfl) rfl) rfl)
 clear hA;have H:=Hp.start w;refine sg λK1 hK1=>?_;refine zd ?_;intro A F;refine nn (hK1 _ _) ?_;refine sg λK2 hK2=>?_
 iterate 2 (refine zd ?_;intro A F)
 refine va (R:=λvv ww=>∃ a1 c1,vv=.slice a1 l.length c1∧Row ww a1 (B8 l)) F H rfl (j6 rfl rfl (j0 (F.e rfl) (j0 (F.e rfl) j9)) jNc) ((jH8 v k _).mono λe9 ww ⟨v9,h1,h2,h3⟩=>by rw[← hl]at h2;obtain ⟨a1,c1,rfl⟩:=qC h2;exact ⟨_,h1,⟨a1,c1,rfl,(ju h2).1⟩,h3⟩) ?_;clear F H A;intro vv W A hR hk H F;obtain ⟨a1,c1,rfl,hA⟩:=hR;clear hk;refine zd ?_;intro A F;refine nn (hK2 _ _) ?_;refine wp_seq_k λK4 hK4=>?_;refine sg λK5 hK5=>?_;refine zd ?_;intro A F;refine j7 F rfl (qH rfl (j0 (F.e rfl) j9) (qK Tryz.underlying25)) ?_;intro A F;refine zb (jx (i:=l.length) (j:=0)) ?_;intro A F;refine nn (hK5 _ _) ?_;refine zc (λhb6=>?_) (λhb6=>?_)
 ·skip
  refine sg λK7 hK7=>?_;refine zd ?_;intro A F;refine nn (hK7 _ _) ?_;refine jH ?_;refine (show bodyPost _ Tryz.f11 RR Exit.ret _ _ from zr ?_);exact ⟨congrArg (λx:Nat=>Ending.returned (.int .u8 x)) (by have h9:=of_decide_eq_true hb6;rw[hll]at h9;unfold rfx;rw[List.eq_nil_of_length_eq_zero h9];rfl),H.k⟩
 refine wp_skip (hK4 _ _ ?_);refine sg λK8 hK8=>?_
 iterate 2 (refine zd ?_;intro A F)
 refine j7 F rfl (vZ rfl (F.e rfl) (jI5 _ _ (by omega) (by omega))) ?_;intro A F;refine zd ?_;intro A F;refine j7 F rfl (qH rfl (j0 (F.e rfl) j9) (qK Tryz.underlying25)) ?_;intro A F;have h0:l.length≠0:=by have h9:=hb6;exact of_decide_eq_false h9
 refine zb (xl (i:=n) (j:=l.length) h0) ?_;intro A F;have hlt:n % l.length<l.length:=Nat.mod_lt _ (by omega);obtain ⟨b9,off9,ha9,hbb9,q0⟩:=hA.byte hlt;subst ha9;refine j7 F rfl (qJ rfl (F.e rfl) (F.e rfl) (vc Tryz.underlying25 (j7n _) hlt)) ?_;intro A F;refine j7 F rfl (jA rfl (F.e rfl) (jk (j4a _) q0)) ?_;intro A F;refine zd ?_;intro A F;refine nn (hK8 _ _) ?_;refine jH ?_;refine (show bodyPost _ Tryz.f11 RR Exit.ret _ _ from zr ?_);exact ⟨congrArg (λx:Nat=>Ending.returned (.int .u8 x)) (jI2 v k n l hl hlt),H.k⟩
theorem jBd (L:List Pr) (k:Int) (hw:∀ p∈L,p.n<4294967296):j52 k (qP L k):=by
 unfold qP;rcases hG:ve k [] (L.take 8) with _|out
 ·exact ⟨by simp,by simp[idf]⟩
 ·dsimp only
  obtain ⟨h1,h2⟩:=j2p (L.take 8) [] out (λp hp=>hw p (List.mem_of_mem_take hp)) ⟨by simp,by simp[idf]⟩ hG;obtain ⟨g1,g2,g3⟩:=jCf h1;have hste:=xW (j1w out);exact ⟨λp hp=>g1.val p (zi.1 hp),λi hi=>g1.once i (by rw[hste i];exact hi)⟩
def mA:Pr:=⟨21,0,⟨#[109]⟩,⟨#[]⟩⟩
theorem jLc {k:Int} {M:List Pr} (h:j52 k M) (hl:M.length≤9) (h21:(qg M 21).isSome=false) (hk:xP 21 k=true) :
  ql k (jX (M++[mA]))=true∧(qg (jX (M++[mA])) 21).isSome=true∧∀ p∈jX (M++[mA]),p.id<256∧p.n<4294967296∧p.a.size≤32∧p.b.size≤32:=by
 have hz:(idf 21 M).length=0:=by
  rcases Nat.eq_zero_or_pos (idf 21 M).length with q|q
  ·exact q
  ·rw[(xd M 21).2 q]at h21;cases h21
 have hg:j52 k (M++[mA]):=by
  refine ⟨λp hp=>?_,λi hi=>?_⟩
  ·rcases List.mem_append.1 hp with hp|hp
   ·exact h.val p hp
   ·rw[List.mem_singleton.1 hp]
    exact ⟨by decide +kernel,hk,by decide,by decide,by decide,by decide⟩
  ·rw[vw,List.length_append]at hi
   by_cases he:i=21
   ·subst he
    rw[hz,vU (i:=21) (p:=mA) (L:=[]) rfl,show idf 21 ([]:List Pr)=[] from rfl]at hi;simp at hi
   ·rw[j0t (p:=mA) (λe=>he e.symm),show idf i ([]:List Pr)=[] from rfl]at hi
    exact h.once i (by simpa using hi)
 have h2:(qg (M++[mA]) 21).isSome=true:=(xd (M++[mA]) 21).2 (by rw[vw,List.length_append,vU (i:=21) (p:=mA) (L:=[]) rfl];simp only[List.length_cons];omega);have hste:=xW (M++[mA]);have h3:(qg (jX (M++[mA])) 21).isSome=true:=by rw[← j5t hste 21];exact h2
 refine ⟨?_,h3,λp hp=>(hg.val p (zi.1 hp)).2.2⟩;unfold ql;rw[je,decide_eq_true (by simp;omega),h3,j8f (jX (M++[mA])) none (xV _) (λp hp=>by have:=hg.val p (zi.1 hp);exact ⟨this.1,this.2.1⟩) (λi hi=>hg.once i (by rw[hste i];exact hi)) (λx hx=>by cases hx)]
 rfl
theorem za (s:ByteArray):qE (ffS s)=true∧(ffS s).size≤40:=by
 have hl:=jN7 s.data.toList;have hn:=jLj s.data.toList;have hw:∀ x∈fM s.data.toList,vF x=false∨x=[43]:=λx hx=>(hl x hx).2.1
 have hj:(qS (fM s.data.toList)).length≤14:=by
  have:=j62 (fM s.data.toList) 1 (λx hx=>by
   simp only[fM,List.mem_cons,List.mem_map]at hx;rcases hx with rfl|⟨c,_,rfl⟩
   ·simp
   ·exact j8o _)
  omega
 have key:∀ b:Bool,qE ⟨(jMa b++ff1 s.data.toList).toArray⟩=true∧(ff1 s.data.toList).length≤16:=by
  intro b;unfold ff1
  split
  ·have e:qS (fM s.data.toList)++[47,35]=qS (fM s.data.toList++[[35]]):=by rw[j3k _ _ (by simp[fM])]
   refine ⟨(j3w b (M:=fM s.data.toList++[[35]]) (by rw[e]) (by simp) (λx hx=>?_) (by simp;omega) (j6b _ hw) (by rw[← e];simp)).1,by simp;omega⟩;rcases List.mem_append.1 hx with hx|hx
   ·exact (hl x hx).1
   ·rw[List.mem_singleton.1 hx];exact jH0 (by decide) (by decide) (by decide) (by decide)
  ·refine ⟨(j3w b (M:=fM s.data.toList) rfl (by simp[fM]) (λx hx=>(hl x hx).1) (by omega) (j7r _ hw) ?_).1,by omega⟩
   simp only[fM];cases s.data.toList.take 6<;>simp[qS]
 unfold ffS ffL
 split
 ·exact ⟨by decide +kernel,by show (#[35]:Array UInt8).size≤40;decide⟩
 ·unfold ff2
  split
  ·refine ⟨(key true).1,?_⟩
   show ([36,115,104,97,114,101,47,103,47]++ff1 s.data.toList).toArray.size≤40
   have:=(key true).2
   simp;omega
  ·refine ⟨(key false).1,?_⟩
   show (ff1 s.data.toList).toArray.size≤40
   have:=(key true).2
   simp;omega
theorem jDm (p:Pk):jP (jP p)=jP p:=by
 unfold jP;rcases j65 p.kind with k|k|k|k|k|k|k|k|k|k|k|k|k|⟨k1,k2,k3,k4,k5,k6,k7,k8,k9,k10,k11,k14,k15⟩
 ·simp only[k,↓reduceIte,zk]
  cases p.hasWill<;>cases p.hasUser<;>cases p.hasPass<;>rfl
 all_goals (first|(simp only[k,↓reduceIte,Int.reduceEq,or_self,or_true,true_or,false_or,or_false,zk];done)|simp only[k1,k2,k3,k4,k5,k6,k7,k8,k9,k10,k11,k14,k15,↓reduceIte,or_self,zk])
structure FixQ (v:Int) (q:Pk):Prop where
 k1:1≤q.kind
 k2:q.kind≤15
 k3:v=4→q.kind≤14
 qos:q.qos≤2
 dup:q.dup=true→q.qos≠0
 id:q.id<65536
 id1:q.kind≠3→q.id≠0
 id3:q.kind=3→(q.id=0↔q.qos=0)
 keep:q.keep<65536
 pass1:v=4→q.hasPass=true→q.hasUser=true
 client:jb q.client=true
 user:jb q.user=true
 sc:q.client.size≤40
 su:q.user.size≤40
 spl:q.pass.size≤40
 sw:q.willLoad.size≤40
 sl:q.load.size≤40
 clean:v=4→q.client.size=0→q.clean=true
 wq:q.willQoS≤2
 wt:xD q.willTopic=true
 wts:q.willTopic.size≤40
 code:vp (sp v q.kind)≠[]→ke v q.kind q.code=true
 codel:q.code<256
 pres:q.present=true→q.code=0
 pr4:v=4→q.props=[]∧q.willProps=[]
 pr:ql q.kind q.props=true
 wpr:ql 16 q.willProps=true
 pr15:q.kind=15→(qg q.props 21).isSome=true
 prn:q.props.length≤10
 wprn:q.willProps.length≤10
 prs:∀ x∈q.props,x.id<256∧x.n<4294967296∧x.a.size≤32∧x.b.size≤32
 wprs:∀ x∈q.willProps,x.id<256∧x.n<4294967296∧x.a.size≤32∧x.b.size≤32
 topic:xD q.topic=true∨(v=5∧q.topic.size=0∧(qg q.props 35).isSome=true)
 tops:q.topic.size≤40
 fl1:1≤q.filters.length
 fl2:q.filters.length≤5
 fl:∀ f∈q.filters,j4f v q.kind f=true∧f.opt<256∧f.text.size≤40
 cl:q.codes.length≤5
 cl9:(q.kind=9∨(q.kind=11∧v=5))→1≤q.codes.length∧∀ c∈q.codes,ke v q.kind c.toNat=true
 cl0:¬ (q.kind=9∨(q.kind=11∧v=5))→q.codes=[]
 srt:Srt q.props
 wsrt:Srt q.willProps
theorem j5c:∀ v:Fin 2,∀ k:Fin 16,(k.val=2∨k.val=4∨k.val=5∨k.val=6∨k.val=7∨k.val=14∨(k.val=15∧v.val=1))→vp (sp (4+(v.val:Int)) (k.val:Int))≠[]:=by decide +kernel
theorem j9r {v k:Int} (hv:v=4∨v=5) (h:k=2∨k=4∨k=5∨k=6∨k=7∨k=14∨(k=15∧v=5)):vp (sp v k)≠[]:=by
 obtain ⟨j,rfl⟩:∃ j:Nat,k=(j:Int):=⟨k.toNat,by omega⟩
 rcases hv with rfl|rfl
 ·exact j5c 0 ⟨j,by omega⟩ (by simp only;omega)
 ·exact j5c 1 ⟨j,by omega⟩ (by show j=2∨j=4∨j=5∨j=6∨j=7∨j=14∨(j=15∧1=1);omega)
theorem FixQ.right {v:Int} {q:Pk} (hv:v=4∨v=5) (h:FixQ v q):j93 v (jP q)=true:=by
  have hk:=jDn q
  have hE:xN v (jP q).kind=true:=by
    rw[hk];unfold xN;have h1:=h.k1;have h2:=h.k2;have h3:=h.k3;rcases hv with rfl|rfl
    · have h3:=h.k3 rfl
      simp;omega
    · simp;omega
  unfold j93;rw[hE,decide_eq_true (jDm q).symm]
  have hP:(!(decide (v=4)&&(decide (0<(jP q).props.length)||decide (0<(jP q).willProps.length))))=true∧ql (jP q).kind (jP q).props=true∧ql 16 (jP q).willProps=true:=by
    rw[hk]
    have e1:(jP q).props=q.props∨(jP q).props=[]:=by
      unfold jP;repeat' split
      all_goals first|exact .inl rfl|exact .inr rfl
    have e2:(jP q).willProps=q.willProps∨(jP q).willProps=[]:=by
      unfold jP;repeat' split
      all_goals first|exact .inl rfl|exact .inr rfl|(simp only;split<;>first|exact .inl rfl|exact .inr rfl)
    refine ⟨?_,?_,?_⟩
    · rcases hv with rfl|rfl
      · obtain ⟨p1,p2⟩:=h.pr4 rfl
        have g1:(jP q).props=[]:=by rcases e1 with e|e<;>rw[e];exact p1
        have g2:(jP q).willProps=[]:=by rcases e2 with e|e<;>rw[e];exact p2
        rw[g1,g2];rfl
      · rfl
    · rcases e1 with e|e<;>rw[e]
      · exact h.pr
      · rfl
    · rcases e2 with e|e<;>rw[e]
      · exact h.wpr
      · rfl
  rw[hP.1,hP.2.1,hP.2.2];simp only[Bool.true_and]
  have hid:(!(decide (4≤(jP q).kind)&&(decide ((jP q).kind≤11)&&decide ((jP q).id=0))))=true:=by
    rw[hk]
    by_cases hr:4≤q.kind∧q.kind≤11
    · have e:(jP q).id=q.id:=by
        unfold jP;rw[if_neg (by omega),if_neg (by omega),if_neg (by omega)];rcases (show q.kind=4∨q.kind=5∨q.kind=6∨q.kind=7∨q.kind=8∨q.kind=9∨q.kind=10∨q.kind=11 from by omega) with k|k|k|k|k|k|k|k<;>simp[k]
      rw[e,decide_eq_false (h.id1 (by omega))];simp
    · by_cases h4:4≤q.kind
      · rw[decide_eq_false (by omega:¬ q.kind≤11)];simp
      · rw[decide_eq_false h4];rfl
  rw[hid];simp only[Bool.true_and,aE9];refine ⟨?_,?_⟩
  · unfold j00
    rw[hk]
    by_cases hf:q.kind=8∨q.kind=10
    · have e:(jP q).filters=q.filters:=by
        unfold jP;rcases hf with k|k<;>simp[k]
      have h2:=h.fl1;have h3:=h.fl2;rw[if_pos hf,e,decide_eq_true (by omega:1≤q.filters.length),decide_eq_true (by omega:q.filters.length≤1024),if_neg (by omega),decide_eq_false (by omega:¬ q.kind=11)];simp only[Bool.true_and,Bool.and_true,Bool.false_and,Bool.not_false];exact List.all_eq_true.2 λf hf=>(h.fl f hf).1
    · rw[if_neg hf]
      by_cases hc:q.kind=9∨(q.kind=11∧v=5)
      · have e:(jP q).codes=q.codes:=by
          unfold jP;rcases hc with k|⟨k,_⟩<;>simp[k]
        obtain ⟨c1,c2⟩:=h.cl9 hc;have c3:=h.cl;rw[if_pos hc,e,decide_eq_true c1,decide_eq_true (by omega:q.codes.length≤1024),List.all_eq_true.2 c2];rcases hc with k|⟨k,rfl⟩
        · rw[decide_eq_false (by omega:¬ q.kind=11)];rfl
        · simp
      · rw[if_neg hc]
        have e:(jP q).codes=[]:=by
          have:=h.cl0 hc
          unfold jP;repeat' split
          all_goals first|rfl|exact this
        rw[e];simp
  · have hcs:=λ(hh:q.kind=2∨q.kind=4∨q.kind=5∨q.kind=6∨q.kind=7∨q.kind=14∨(q.kind=15∧v=5))=>h.code (j9r hv hh)
    unfold j1d;rw[hk];rcases (show q.kind=1∨q.kind=2∨q.kind=3∨q.kind=4∨q.kind=5∨q.kind=6∨q.kind=7∨q.kind=8∨q.kind=9∨q.kind=10∨q.kind=11∨q.kind=12∨q.kind=13∨q.kind=14∨q.kind=15 from by have:=h.k1;have:=h.k2;omega) with k|k|k|k|k|k|k|k|k|k|k|k|k|k|k
    · rw[if_pos k]
      unfold j5e jP;rw[if_pos k];simp only[zk];have h1:=h.wq;have h2:=h.wt;have h3:=h.client;have h4:=h.user;have h5:=h.spl;have h6:=h.sw;have h7:=h.pass1;have h8:=h.clean;have u0:jb (if q.hasUser then q.user else ⟨#[]⟩)=true:=by split;exact h4;decide +kernel
      have p0:decide ((if q.hasPass then q.pass else ⟨#[]⟩).size≤65535)=true:=decide_eq_true (by split;omega;decide);have w0:decide ((if q.hasWill then q.willLoad else ⟨#[]⟩).size≤65535)=true:=decide_eq_true (by split;omega;decide);rw[u0,p0,w0,h3]
      have hx:(decide (v=4)&&((q.hasPass&&!q.hasUser)||(decide (q.client.size=0)&&!q.clean)))=false:=by
        rcases hv with rfl|rfl
        · have h7':=h7 rfl;have h8':=h8 rfl
          have g1:(q.hasPass&&!q.hasUser)=false:=by
            cases hp:q.hasPass with
            | false=>rfl
            | true=>rw[h7' hp];rfl
          have g2:(decide (q.client.size=0)&&!q.clean)=false:=by
            by_cases hc:q.client.size=0
            · rw[h8' hc];simp
            · rw[decide_eq_false hc];rfl
          rw[g1,g2];rfl
        · rfl
      rw[hx];cases hw:q.hasWill with
      | true =>
        simp only[↓reduceIte];rw[decide_eq_false (by omega:¬ 2<q.willQoS),h2]
        rfl
      | false=>rfl
    · have e1:(jP q).code=q.code∧(jP q).present=q.present:=by unfold jP;simp[k]
      have h1:=hcs (.inl k);rw[k]at h1 ⊢;rw[e1.1,e1.2,h1];cases hp:q.present with
      | false=>rfl
      | true=>rw[h.pres hp];rfl
    · rw[if_neg (by omega),if_neg (by omega),if_pos k]
      have e:(jP q).qos=q.qos∧(jP q).dup=q.dup∧(jP q).id=q.id∧(jP q).topic=q.topic∧(jP q).props=q.props:=by unfold jP;simp[k]
      obtain ⟨e1,e2,e3,e4,e5⟩:=e;unfold j6i;rw[e1,e2,e3,e4,e5];have h1:=h.qos;have h2:=h.dup;have h3:=h.id3 k
      rw[if_neg (by
        rintro (g|⟨g1,g2⟩|g)
        · omega
        · exact h2 g1 g2
        · exact g (by rw[Bool.eq_iff_iff];simpa using h3))]
      rcases h.topic with g|⟨g0,g1,g2⟩
      · rw[g];rfl
      · rw[g1,g2,decide_eq_true g0];simp
    all_goals first
      | (have e1:(jP q).code=q.code:=by (unfold jP;simp[k])
         have h1:=hcs (by omega);rw[k]at h1 ⊢;simp[e1,h1];done)
      | (simp[k];done)
      | (have hv5:v=5:=by (have:=h.k3;omega)
         subst hv5;have e1:(jP q).code=q.code∧(jP q).props=q.props:=by (unfold jP;simp[k])
         have h1:=hcs (by omega);have h2:=h.pr15 k;rw[k]at h1 ⊢;simp[e1.1,e1.2,h1,h2])
structure Any (p:Pk):Prop where
 r:Reach p
 qos:p.qos<256
 id:p.id<65536
 keep:p.keep<65536
 wq:p.willQoS<256
 code:p.code<256
 opt:∀ f∈p.filters,f.opt<256
 pw:∀ x∈p.props,x.id<256∧x.n<4294967296
 ww:∀ x∈p.willProps,x.id<256∧x.n<4294967296
theorem IsPk.any {w:World} {p:Pk} {s:Sl} (h:IsPk w p s) (r:Reach p):Any p :=
 ⟨r,h.hqos,h.hid,h.hkeep,h.hwillQoS,h.hcode,λf hf=>(h.hf.hwf f hf).2,λx hx=>⟨(h.hp.hwf x hx).1,(h.hp.hwf x hx).2.1⟩,λx hx=>⟨(h.hw.hwf x hx).1,(h.hw.hwf x hx).2.1⟩⟩
theorem Any.props {p:Pk} (h:Any p):∀ x∈p.props,x.id<256∧x.n<4294967296∧x.a.size≤9223372036854775807∧x.b.size≤9223372036854775807:=λx hx=>⟨(h.pw x hx).1,(h.pw x hx).2,by have:=(h.r.tp x hx).1;omega,by have:=(h.r.tp x hx).2;omega⟩
theorem Any.wprops {p:Pk} (h:Any p):∀ x∈p.willProps,x.id<256∧x.n<4294967296∧x.a.size≤9223372036854775807∧x.b.size≤9223372036854775807:=λx hx=>⟨(h.ww x hx).1,(h.ww x hx).2,by have:=(h.r.tw x hx).1;omega,by have:=(h.r.tw x hx).2;omega⟩
theorem j5f (n:Int) (w:World):(convert 3 28 (.int .i64 n)).run Tryz.prog w=.ok (.int .u64 (IntKind.u64.wrap n)) w:=by
 have u:=Tryz.underlying3;have u2:=Tryz.underlying28
 go_simp
theorem jB6 (n:Nat) (w:World) (h:n<9223372036854775808):(convert 28 3 (.int .u64 (n:Int))).run Tryz.prog w=.ok (.int .i64 (n:Int)) w:=by
 have u:=Tryz.underlying3;have u2:=Tryz.underlying28;have e:IntKind.i64.wrap (n:Int)=n:=jK (by omega) (by omega)
 go_simp
 try exact e
theorem j64 (a:Int) (m:Nat) (h0:0<m) (h1:m≤1000):∃ k:Nat,(IntKind.u64.wrap a).tmod (m:Int)=(k:Int)∧k<m:=by
 have hw:0≤IntKind.u64.wrap a:=by
  rw[IntKind.wrap_u64];exact Int.emod_nonneg _ (by decide)
 have h2:=Int.tmod_nonneg (m:Int) hw;have h3:=Int.tmod_lt_of_pos (IntKind.u64.wrap a) (show (0:Int)<(m:Int) by omega);exact ⟨((IntKind.u64.wrap a).tmod m).toNat,by omega,by omega⟩
theorem j1s (s:ByteArray) (m:Nat) (w:World) (h:m≤s.size) (hs:s.size≤9223372036854775807):(Instr.sliceAt 9 (.string s) none (some (.int .i64 (m:Int))) none).run Tryz.prog w=.ok (.string (s.extract 0 m)) w:=by
 have u:=Tryz.underlying9;have h2:(m:Int)≤(s.size:Int):=by omega
 have h3:(0:Int)≤(m:Int):=by omega
 go_simp
theorem ownSl_lo {p : Pk} {s : Sl} {B : Nat} (hf : ∀ b off, s.fa = some ⟨b, off, none⟩ → B ≤ b) (hc : ∀ b off, s.ca = some ⟨b, off, none⟩ → B ≤ b) : ∀ b off, ((qA p s).fa = some ⟨b, off, none⟩ → B ≤ b) ∧ ((qA p s).ca = some ⟨b, off, none⟩ → B ≤ b) := by
  intro b off
  unfold qA
  repeat' split
  all_goals exact ⟨by first | exact hf b off | (intro h; cases h), by first | exact hc b off | (intro h; cases h)⟩
theorem own_loF {w : World} {B k n c : Nat} {e : TypeId} {a : Option Addr} {xs : List Value} (h : w.ownsRow B e k (.slice a n c) n xs) : ∀ b off, a = some ⟨b, off, none⟩ → B ≤ b := fun b off e => by
  subst e
  exact (h.lt b rfl).1
def j9j (v : Int) (w : World) (e : Ending) (w' : World) : Prop := ∃ q s', e = .returned (Pk.val q s') ∧ q.At s' w' ∧ (∃ Q, q = jP Q ∧ FixQ v Q) ∧ (s'.ca = none → q.codes.length = 0 ∧ s'.cc = 0) ∧ Kept No w w' ∧ ∀ b off, (s'.fa = some ⟨b, off, none⟩ → w.heap.size ≤ b) ∧ (s'.ca = some ⟨b, off, none⟩ → w.heap.size ≤ b)
theorem jCl {v k:Int} (hv:v=4∨v=5) (h:k=9∨(k=11∧v=5)):vp (sp v k)≠[]:=by
 rcases h with rfl|⟨rfl,rfl⟩
 ·rcases hv with rfl|rfl<;>decide +kernel
 ·decide +kernel
theorem jD0 {v k:Int} (hv:v=4∨v=5) (h:k=9∨(k=11∧v=5)):ke v k (0:UInt8).toNat=true:=by
 rcases h with rfl|⟨rfl,rfl⟩
 ·rcases hv with rfl|rfl<;>decide +kernel
 ·decide +kernel
theorem jAh {p:Pk} {s:Sl} (h:s.ca=none→p.codes.length=0∧s.cc=0):(qA p s).ca=none→(jP p).codes.length=0∧(qA p s).cc=0:=by
 unfold qA jP;rcases j65 p.kind with k|k|k|k|k|k|k|k|k|k|k|k|k|⟨k1,k2,k3,k4,k5,k6,k7,k8,k9,k10,k11,k14,k15⟩
 all_goals (first|simp only[k,↓reduceIte,Int.reduceEq,or_self,or_true,true_or,false_or,or_false]|simp only[k1,k2,k3,k4,k5,k6,k7,k8,k9,k10,k11,k14,k15,↓reduceIte,or_self])
 all_goals first|exact h|(intro _;simp[zk];done)|simp[zk]
theorem j08 (n:Nat) (h:n<256):([Value.int .u8 (n:Int)]:List Value)=B8 [UInt8.ofNat n]:=by simp[B8];omega
theorem j44 (n:Nat) (h:n<256):(UInt8.ofNat n).toNat=n:=by simp;omega
theorem j4t {v k:Int} {t:ByteArray} {o:Nat} (hf:qE t=true) (h1:o<48) (h2:o % 4≠3) (h3:k=10→o=0) (h4:v=4→o≤2) (h5:qu t=true→o / 4 % 2=0):j4f v k ⟨t,o⟩=true:=by
 unfold j4f;simp only[hf]
 have g3:(decide (k=10)&&!decide (o=0))=false:=by
  by_cases h:k=10
  ·rw[h3 h];simp
  ·rw[decide_eq_false h];rfl
 have g4:(decide (v=4)&&decide (2<o))=false:=by
  by_cases h:v=4
  ·rw[decide_eq_false (by have:=h4 h;omega:¬ 2<o)];simp
  ·rw[decide_eq_false h];rfl
 have g5:(qu t&&decide (o / 4 % 2=1))=false:=by
  cases hs:qu t with
  | false=>rfl
  | true=>rw[decide_eq_false (by have:=h5 hs;omega:¬ o / 4 % 2=1)];rfl
 rw[decide_eq_false h2,g3,g4,decide_eq_false (by omega:¬ 48≤o),g5]
 rfl
end Go.Proofs.YtkochkhfbhjicaaGreatDoor
