import Derived.Test.YtdeecgmihfakgaaGreatDoorYFS
import Derived.Test.YtdeecgmihfakgaaGreatDoorYFV
import Derived.Test.YtdeecgmihfakgaaGreatDoorYFG
import Derived.Test.YtdeecgmihfakgaaGreatDoorYFO
import Derived.Test.YtdeecgmihfakgaaGreatDoorYFK
namespace Go.Proofs.YtdeecgmihfakgaaGreatDoor
open Go.RowKit
set_option linter.unusedVariables false
set_option linter.unusedSimpArgs false
set_option maxRecDepth 100000
def rfx (v k:Int) (n:Nat):Nat:=(xH (sp v k)).getD (n % (xH (sp v k)).length) 0
theorem j03 (v k:Int) (n:Nat):rfx v k n<256:=by
 unfold rfx;rw[List.getD_eq_getElem?_getD];rcases h:(xH (sp v k))[n % (xH (sp v k)).length]? with _|x
 ·simp
 ·obtain ⟨h1,h2⟩:=List.getElem?_eq_some_iff.1 h
  have:=(j4l v k _ h1).2
  simp only[Option.getD_some];omega
theorem j2z {v k:Int} {n:Nat} (h:xH (sp v k)≠[]):ke v k (rfx v k n)=true:=by
 have h0:0<(xH (sp v k)).length:=List.length_pos_iff.2 h;have h1:n % (xH (sp v k)).length<(xH (sp v k)).length:=Nat.mod_lt _ h0;unfold rfx ke;rw[List.getD_eq_getElem?_getD,List.getElem?_eq_getElem h1];exact (j4l v k _ h1).1
theorem jIl (v k:Int) (n:Nat) (l:List UInt8) (hl:l=blR (xH (sp v k))) (hlt:n % l.length<l.length):l[n % l.length].toNat=rfx v k n:=by
 subst hl;have e:(blR (xH (sp v k))).length=(xH (sp v k)).length:=by simp[blR]
 have h1:n % (xH (sp v k)).length<(xH (sp v k)).length:=by rw[e]at hlt;exact hlt
 have h8:=(j4l v k _ h1).2;unfold rfx;rw[List.getD_eq_getElem?_getD,List.getElem?_eq_getElem h1]
 have h2:((blR (xH (sp v k)))[n % (blR (xH (sp v k))).length]'hlt)=UInt8.ofNat ((xH (sp v k))[n % (xH (sp v k)).length]):=by
  simp[blR]
 rw[h2];simp only[Option.getD_some,UInt8.toNat_ofNat'];omega
theorem j8z (n:Int) (w:World) (h:0≤n) (h2:n≤255):(convert 5 3 (.int .u8 n)).run Tryz.prog w=.ok (.int .i64 n) w:=by
 have u:=Tryz.underlying3;have u2:=Tryz.underlying5;have e:IntKind.i64.wrap n=n:=jL (by omega) (by omega)
 go_simp
 try exact e
theorem jO7:FN Tryz.prog 92:=jh Tryz.func92 (by kernel_rfl) rfl
theorem xz (v k:Int) (n:Nat) (w:World) (hn:n<256) :
  Calls Tryz.prog 42 #[.int .i64 v,.int .i64 k,.int .u8 n] w λe w'=>e=.returned (.int .u8 (rfx v k n))∧Kept No w w':=by
 obtain ⟨l,hl⟩:∃ l,l=blR (xH (sp v k)):=⟨_,rfl⟩
 have hll:l.length=(xH (sp v k)).length:=by rw[hl];simp[blR]
 have hle:=jIh v k;let RR:Ending→World→Prop:=λe w'=>e=.returned (.int .u8 (rfx v k n))∧Kept No w w'
 go_enter Tryz.func42,Tryz.ntmps42
 generalize hA:({tmps:=_,defers:=[]}:Act)=A;have F:Fr A 22 [(2,(.int .u8 ((n:Int)))),(1,(.int .i64 k)),(0,(.int .i64 v))]:=by rw[← hA];exact (Fr.cons (i:=2) (v:=(.int .u8 ((n:Int)))) (Fr.cons (i:=1) (v:=(.int .i64 k)) (Fr.cons (i:=0) (v:=(.int .i64 v)) (Fr.nil0 rfl rfl) rfl) rfl) rfl)
 clear hA;have H:=Hp.start w;refine sg λK1 hK1=>?_;refine zd ?_;intro A F;refine nn (hK1 _ _) ?_;refine sg λK2 hK2=>?_
 iterate 2 (refine zd ?_;intro A F)
 refine qX (R:=λvv ww=>∃ a1 c1,vv=.slice a1 l.length c1∧Row ww a1 (B8 l)) F H rfl (j4 rfl rfl (j0 (F.e rfl) (j0 (F.e rfl) j6)) jO7) ((jHk v k _).mono λe9 ww ⟨v9,h1,h2,h3⟩=>by rw[← hl]at h2;obtain ⟨a1,c1,rfl⟩:=jx h2;exact ⟨_,h1,⟨a1,c1,rfl,(jV h2).1⟩,h3⟩) ?_;clear F H A;intro vv W A hR hk H F;obtain ⟨a1,c1,rfl,hA⟩:=hR;clear hk;refine zd ?_;intro A F;refine nn (hK2 _ _) ?_;refine wp_seq_k λK4 hK4=>?_;refine sg λK5 hK5=>?_;refine zd ?_;intro A F;refine j7 F rfl (je rfl (j0 (F.e rfl) j6) (jb Tryz.underlying25)) ?_;intro A F;refine zb (jl (i:=l.length) (j:=0)) ?_;intro A F;refine nn (hK5 _ _) ?_;refine zc (λhb6=>?_) (λhb6=>?_)
 ·skip
  refine sg λK7 hK7=>?_;refine zd ?_;intro A F;refine nn (hK7 _ _) ?_;refine jE ?_;refine (show bodyPost _ Tryz.f42 RR Exit.ret _ _ from zr ?_);exact ⟨congrArg (λx:Nat=>Ending.returned (.int .u8 x)) (by have h9:=of_decide_eq_true hb6;rw[hll]at h9;unfold rfx;rw[List.eq_nil_of_length_eq_zero h9];rfl),H.k⟩
 refine wp_skip (hK4 _ _ ?_);refine sg λK8 hK8=>?_
 iterate 2 (refine zd ?_;intro A F)
 refine j7 F rfl (qJ rfl (F.e rfl) (j8z _ _ (by omega) (by omega))) ?_;intro A F;refine zd ?_;intro A F;refine j7 F rfl (je rfl (j0 (F.e rfl) j6) (jb Tryz.underlying25)) ?_;intro A F;have h0:l.length≠0:=by have h9:=hb6;exact of_decide_eq_false h9
 refine zb (xr (i:=n) (j:=l.length) h0) ?_;intro A F;have hlt:n % l.length<l.length:=Nat.mod_lt _ (by omega);obtain ⟨b9,off9,ha9,hbb9,q0⟩:=hA.byte hlt;subst ha9;refine j7 F rfl (qB rfl (F.e rfl) (F.e rfl) (vR Tryz.underlying25 (j6m _) hlt)) ?_;intro A F;refine j7 F rfl (j9 rfl (F.e rfl) (jt (j3c _) q0)) ?_;intro A F;refine zd ?_;intro A F;refine nn (hK8 _ _) ?_;refine jE ?_;refine (show bodyPost _ Tryz.f42 RR Exit.ret _ _ from zr ?_);exact ⟨congrArg (λx:Nat=>Ending.returned (.int .u8 x)) (jIl v k n l hl hlt),H.k⟩
theorem jBw (L:List Pr) (k:Int) (hw:∀ p∈L,p.n<4294967296):j63 k (qc L k):=by
 unfold qc;rcases hG:vy k [] (L.take 8) with _|out
 ·exact ⟨by simp,by simp[idf]⟩
 ·dsimp only
  obtain ⟨h1,h2⟩:=j40 (L.take 8) [] out (λp hp=>hw p (List.mem_of_mem_take hp)) ⟨by simp,by simp[idf]⟩ hG;obtain ⟨g1,g2,g3⟩:=jCu h1;have hste:=z7 (j31 out);exact ⟨λp hp=>g1.val p (j0c.1 hp),λi hi=>g1.once i (by rw[hste i];exact hi)⟩
def mA:Pr:=⟨21,0,⟨#[109]⟩,⟨#[]⟩⟩
theorem jLa {k:Int} {M:List Pr} (h:j63 k M) (hl:M.length≤9) (h21:(qp M 21).isSome=false) (hk:xd 21 k=true) :
  qY k (qS (M++[mA]))=true∧(qp (qS (M++[mA])) 21).isSome=true∧∀ p∈qS (M++[mA]),p.id<256∧p.n<4294967296∧p.a.size≤32∧p.b.size≤32:=by
 have hz:(idf 21 M).length=0:=by
  rcases Nat.eq_zero_or_pos (idf 21 M).length with q|q
  ·exact q
  ·rw[(zE M 21).2 q]at h21;cases h21
 have hg:j63 k (M++[mA]):=by
  refine ⟨λp hp=>?_,λi hi=>?_⟩
  ·rcases List.mem_append.1 hp with hp|hp
   ·exact h.val p hp
   ·rw[List.mem_singleton.1 hp]
    exact ⟨by decide +kernel,hk,by decide,by decide,by decide,by decide⟩
  ·rw[xK,List.length_append]at hi
   by_cases he:i=21
   ·subst he
    rw[hz,vl (i:=21) (p:=mA) (L:=[]) rfl,show idf 21 ([]:List Pr)=[] from rfl]at hi;simp at hi
   ·rw[j1n (p:=mA) (λe=>he e.symm),show idf i ([]:List Pr)=[] from rfl]at hi
    exact h.once i (by simpa using hi)
 have h2:(qp (M++[mA]) 21).isSome=true:=(zE (M++[mA]) 21).2 (by rw[xK,List.length_append,vl (i:=21) (p:=mA) (L:=[]) rfl];simp only[List.length_cons];omega);have hste:=z7 (M++[mA]);have h3:(qp (qS (M++[mA])) 21).isSome=true:=by rw[← j6l hste 21];exact h2
 refine ⟨?_,h3,λp hp=>(hg.val p (j0c.1 hp)).2.2⟩;unfold qY;rw[jv,decide_eq_true (by simp;omega),h3,j8v (qS (M++[mA])) none (z6 _) (λp hp=>by have:=hg.val p (j0c.1 hp);exact ⟨this.1,this.2.1⟩) (λi hi=>hg.once i (by rw[hste i];exact hi)) (λx hx=>by cases hx)]
 rfl
theorem j09 (s:ByteArray):qW (ffS s)=true∧(ffS s).size≤40:=by
 have hl:=jNp s.data.toList;have hn:=jLi s.data.toList;have hw:∀ x∈fM s.data.toList,vO x=false∨x=[43]:=λx hx=>(hl x hx).2.1
 have hj:(qf (fM s.data.toList)).length≤14:=by
  have:=j6t (fM s.data.toList) 1 (λx hx=>by
   simp only[fM,List.mem_cons,List.mem_map]at hx;rcases hx with rfl|⟨c,_,rfl⟩
   ·simp
   ·exact j93 _)
  omega
 have key:∀ b:Bool,qW ⟨(jN0 b++ff1 s.data.toList).toArray⟩=true∧(ff1 s.data.toList).length≤16:=by
  intro b;unfold ff1
  split
  ·have e:qf (fM s.data.toList)++[47,35]=qf (fM s.data.toList++[[35]]):=by rw[j4v _ _ (by simp[fM])]
   refine ⟨(j57 b (M:=fM s.data.toList++[[35]]) (by rw[e]) (by simp) (λx hx=>?_) (by simp;omega) (j72 _ hw) (by rw[← e];simp)).1,by simp;omega⟩;rcases List.mem_append.1 hx with hx|hx
   ·exact (hl x hx).1
   ·rw[List.mem_singleton.1 hx];exact jH8 (by decide) (by decide) (by decide) (by decide)
  ·refine ⟨(j57 b (M:=fM s.data.toList) rfl (by simp[fM]) (λx hx=>(hl x hx).1) (by omega) (j89 _ hw) ?_).1,by omega⟩
   simp only[fM];cases s.data.toList.take 6<;>simp[qf]
 unfold ffS ffL
 split
 ·exact ⟨by decide +kernel,by show (#[35]:Array UInt8).size≤40;decide⟩
 ·unfold ff2
  split
  ·refine ⟨(key true).1,?_⟩
   show ([36,115,104,97,114,101,47,103,47]++ff1 s.data.toList).toArray.size≤40
   have:=(key true).2
   simp;omega
  ·refine ⟨(key false).1,?_⟩
   show (ff1 s.data.toList).toArray.size≤40
   have:=(key true).2
   simp;omega
theorem jE0 (p:Pk):jO (jO p)=jO p:=by
 unfold jO;rcases j6w p.kind with k|k|k|k|k|k|k|k|k|k|k|k|k|⟨k1,k2,k3,k4,k5,k6,k7,k8,k9,k10,k11,k14,k15⟩
 ·simp only[k,↓reduceIte,zk]
  cases p.hasWill<;>cases p.hasUser<;>cases p.hasPass<;>rfl
 all_goals (first|(simp only[k,↓reduceIte,Int.reduceEq,or_self,or_true,true_or,false_or,or_false,zk];done)|simp only[k1,k2,k3,k4,k5,k6,k7,k8,k9,k10,k11,k14,k15,↓reduceIte,or_self,zk])
structure FixQ (v:Int) (q:Pk):Prop where
 k1:1≤q.kind
 k2:q.kind≤15
 k3:v=4→q.kind≤14
 qos:q.qos≤2
 dup:q.dup=true→q.qos≠0
 id:q.id<65536
 id1:q.kind≠3→q.id≠0
 id3:q.kind=3→(q.id=0↔q.qos=0)
 keep:q.keep<65536
 pass1:v=4→q.hasPass=true→q.hasUser=true
 client:q7 q.client=true
 user:q7 q.user=true
 sc:q.client.size≤40
 su:q.user.size≤40
 spl:q.pass.size≤40
 sw:q.willLoad.size≤40
 sl:q.load.size≤40
 clean:v=4→q.client.size=0→q.clean=true
 wq:q.willQoS≤2
 wt:vp q.willTopic=true
 wts:q.willTopic.size≤40
 code:xH (sp v q.kind)≠[]→ke v q.kind q.code=true
 codel:q.code<256
 pres:q.present=true→q.code=0
 pr4:v=4→q.props=[]∧q.willProps=[]
 pr:qY q.kind q.props=true
 wpr:qY 16 q.willProps=true
 pr15:q.kind=15→(qp q.props 21).isSome=true
 prn:q.props.length≤10
 wprn:q.willProps.length≤10
 prs:∀ x∈q.props,x.id<256∧x.n<4294967296∧x.a.size≤32∧x.b.size≤32
 wprs:∀ x∈q.willProps,x.id<256∧x.n<4294967296∧x.a.size≤32∧x.b.size≤32
 topic:vp q.topic=true∨(v=5∧q.topic.size=0∧(qp q.props 35).isSome=true)
 tops:q.topic.size≤40
 fl1:1≤q.filters.length
 fl2:q.filters.length≤5
 fl:∀ f∈q.filters,j2g v q.kind f=true∧f.opt<256∧f.text.size≤40
 cl:q.codes.length≤5
 cl9:(q.kind=9∨(q.kind=11∧v=5))→1≤q.codes.length∧∀ c∈q.codes,ke v q.kind c.toNat=true
 cl0:¬ (q.kind=9∨(q.kind=11∧v=5))→q.codes=[]
theorem j6a:∀ v:Fin 2,∀ k:Fin 16,(k.val=2∨k.val=4∨k.val=5∨k.val=6∨k.val=7∨k.val=14∨(k.val=15∧v.val=1))→xH (sp (4+(v.val:Int)) (k.val:Int))≠[]:=by decide +kernel
theorem jA3 {v k:Int} (hv:v=4∨v=5) (h:k=2∨k=4∨k=5∨k=6∨k=7∨k=14∨(k=15∧v=5)):xH (sp v k)≠[]:=by
 obtain ⟨j,rfl⟩:∃ j:Nat,k=(j:Int):=⟨k.toNat,by omega⟩
 rcases hv with rfl|rfl
 ·exact j6a 0 ⟨j,by omega⟩ (by simp only;omega)
 ·exact j6a 1 ⟨j,by omega⟩ (by show j=2∨j=4∨j=5∨j=6∨j=7∨j=14∨(j=15∧1=1);omega)
theorem FixQ.right {v:Int} {q:Pk} (hv:v=4∨v=5) (h:FixQ v q):j1q v (jO q)=true:=by
  have hk:=jE1 q
  have hE:zC v (jO q).kind=true:=by
    rw[hk];unfold zC;have h1:=h.k1;have h2:=h.k2;have h3:=h.k3;rcases hv with rfl|rfl
    · have h3:=h.k3 rfl
      simp;omega
    · simp;omega
  unfold j1q;rw[hE,decide_eq_true (jE0 q).symm]
  have hP:(!(decide (v=4)&&(decide (0<(jO q).props.length)||decide (0<(jO q).willProps.length))))=true∧qY (jO q).kind (jO q).props=true∧qY 16 (jO q).willProps=true:=by
    rw[hk]
    have e1:(jO q).props=q.props∨(jO q).props=[]:=by
      unfold jO;repeat' split
      all_goals first|exact .inl rfl|exact .inr rfl
    have e2:(jO q).willProps=q.willProps∨(jO q).willProps=[]:=by
      unfold jO;repeat' split
      all_goals first|exact .inl rfl|exact .inr rfl|(simp only;split<;>first|exact .inl rfl|exact .inr rfl)
    refine ⟨?_,?_,?_⟩
    · rcases hv with rfl|rfl
      · obtain ⟨p1,p2⟩:=h.pr4 rfl
        have g1:(jO q).props=[]:=by rcases e1 with e|e<;>rw[e];exact p1
        have g2:(jO q).willProps=[]:=by rcases e2 with e|e<;>rw[e];exact p2
        rw[g1,g2];rfl
      · rfl
    · rcases e1 with e|e<;>rw[e]
      · exact h.pr
      · rfl
    · rcases e2 with e|e<;>rw[e]
      · exact h.wpr
      · rfl
  rw[hP.1,hP.2.1,hP.2.2];simp only[Bool.true_and]
  have hid:(!(decide (4≤(jO q).kind)&&(decide ((jO q).kind≤11)&&decide ((jO q).id=0))))=true:=by
    rw[hk]
    by_cases hr:4≤q.kind∧q.kind≤11
    · have e:(jO q).id=q.id:=by
        unfold jO;rw[if_neg (by omega),if_neg (by omega),if_neg (by omega)];rcases (show q.kind=4∨q.kind=5∨q.kind=6∨q.kind=7∨q.kind=8∨q.kind=9∨q.kind=10∨q.kind=11 from by omega) with k|k|k|k|k|k|k|k<;>simp[k]
      rw[e,decide_eq_false (h.id1 (by omega))];simp
    · by_cases h4:4≤q.kind
      · rw[decide_eq_false (by omega:¬ q.kind≤11)];simp
      · rw[decide_eq_false h4];rfl
  rw[hid];simp only[Bool.true_and,aE9];refine ⟨?_,?_⟩
  · unfold qz
    rw[hk]
    by_cases hf:q.kind=8∨q.kind=10
    · have e:(jO q).filters=q.filters:=by
        unfold jO;rcases hf with k|k<;>simp[k]
      have h2:=h.fl1;have h3:=h.fl2;rw[if_pos hf,e,decide_eq_true (by omega:1≤q.filters.length),decide_eq_true (by omega:q.filters.length≤1024),if_neg (by omega),decide_eq_false (by omega:¬ q.kind=11)];simp only[Bool.true_and,Bool.and_true,Bool.false_and,Bool.not_false];exact List.all_eq_true.2 λf hf=>(h.fl f hf).1
    · rw[if_neg hf]
      by_cases hc:q.kind=9∨(q.kind=11∧v=5)
      · have e:(jO q).codes=q.codes:=by
          unfold jO;rcases hc with k|⟨k,_⟩<;>simp[k]
        obtain ⟨c1,c2⟩:=h.cl9 hc;have c3:=h.cl;rw[if_pos hc,e,decide_eq_true c1,decide_eq_true (by omega:q.codes.length≤1024),List.all_eq_true.2 c2];rcases hc with k|⟨k,rfl⟩
        · rw[decide_eq_false (by omega:¬ q.kind=11)];rfl
        · simp
      · rw[if_neg hc]
        have e:(jO q).codes=[]:=by
          have:=h.cl0 hc
          unfold jO;repeat' split
          all_goals first|rfl|exact this
        rw[e];simp
  · have hcs:=λ(hh:q.kind=2∨q.kind=4∨q.kind=5∨q.kind=6∨q.kind=7∨q.kind=14∨(q.kind=15∧v=5))=>h.code (jA3 hv hh)
    unfold xL;rw[hk];rcases (show q.kind=1∨q.kind=2∨q.kind=3∨q.kind=4∨q.kind=5∨q.kind=6∨q.kind=7∨q.kind=8∨q.kind=9∨q.kind=10∨q.kind=11∨q.kind=12∨q.kind=13∨q.kind=14∨q.kind=15 from by have:=h.k1;have:=h.k2;omega) with k|k|k|k|k|k|k|k|k|k|k|k|k|k|k
    · rw[if_pos k]
      unfold j0i jO;rw[if_pos k];simp only[zk];have h1:=h.wq;have h2:=h.wt;have h3:=h.client;have h4:=h.user;have h5:=h.spl;have h6:=h.sw;have h7:=h.pass1;have h8:=h.clean;have u0:q7 (if q.hasUser then q.user else ⟨#[]⟩)=true:=by split;exact h4;decide +kernel
      have p0:decide ((if q.hasPass then q.pass else ⟨#[]⟩).size≤65535)=true:=decide_eq_true (by split;omega;decide);have w0:decide ((if q.hasWill then q.willLoad else ⟨#[]⟩).size≤65535)=true:=decide_eq_true (by split;omega;decide);rw[u0,p0,w0,h3]
      have hx:(decide (v=4)&&((q.hasPass&&!q.hasUser)||(decide (q.client.size=0)&&!q.clean)))=false:=by
        rcases hv with rfl|rfl
        · have h7':=h7 rfl;have h8':=h8 rfl
          have g1:(q.hasPass&&!q.hasUser)=false:=by
            cases hp:q.hasPass with
            | false=>rfl
            | true=>rw[h7' hp];rfl
          have g2:(decide (q.client.size=0)&&!q.clean)=false:=by
            by_cases hc:q.client.size=0
            · rw[h8' hc];simp
            · rw[decide_eq_false hc];rfl
          rw[g1,g2];rfl
        · rfl
      rw[hx];cases hw:q.hasWill with
      | true =>
        simp only[↓reduceIte];rw[decide_eq_false (by omega:¬ 2<q.willQoS),h2]
        rfl
      | false=>rfl
    · have e1:(jO q).code=q.code∧(jO q).present=q.present:=by unfold jO;simp[k]
      have h1:=hcs (.inl k);rw[k]at h1 ⊢;rw[e1.1,e1.2,h1];cases hp:q.present with
      | false=>rfl
      | true=>rw[h.pres hp];rfl
    · rw[if_neg (by omega),if_neg (by omega),if_pos k]
      have e:(jO q).qos=q.qos∧(jO q).dup=q.dup∧(jO q).id=q.id∧(jO q).topic=q.topic∧(jO q).props=q.props:=by unfold jO;simp[k]
      obtain ⟨e1,e2,e3,e4,e5⟩:=e;unfold j1e;rw[e1,e2,e3,e4,e5];have h1:=h.qos;have h2:=h.dup;have h3:=h.id3 k
      rw[if_neg (by
        rintro (g|⟨g1,g2⟩|g)
        · omega
        · exact h2 g1 g2
        · exact g (by rw[Bool.eq_iff_iff];simpa using h3))]
      rcases h.topic with g|⟨g0,g1,g2⟩
      · rw[g];rfl
      · rw[g1,g2,decide_eq_true g0];simp
    all_goals first
      | (have e1:(jO q).code=q.code:=by (unfold jO;simp[k])
         have h1:=hcs (by omega);rw[k]at h1 ⊢;simp[e1,h1];done)
      | (simp[k];done)
      | (have hv5:v=5:=by (have:=h.k3;omega)
         subst hv5;have e1:(jO q).code=q.code∧(jO q).props=q.props:=by (unfold jO;simp[k])
         have h1:=hcs (by omega);have h2:=h.pr15 k;rw[k]at h1 ⊢;simp[e1.1,e1.2,h1,h2])
structure Any (p:Pk):Prop where
 r:Reach p
 qos:p.qos<256
 id:p.id<65536
 keep:p.keep<65536
 wq:p.willQoS<256
 code:p.code<256
 opt:∀ f∈p.filters,f.opt<256
 pw:∀ x∈p.props,x.id<256∧x.n<4294967296
 ww:∀ x∈p.willProps,x.id<256∧x.n<4294967296
theorem IsPk.any {w:World} {p:Pk} {s:Sl} (h:IsPk w p s) (r:Reach p):Any p :=
 ⟨r,h.hqos,h.hid,h.hkeep,h.hwillQoS,h.hcode,λf hf=>(h.hf.hwf f hf).2,λx hx=>⟨(h.hp.hwf x hx).1,(h.hp.hwf x hx).2.1⟩,λx hx=>⟨(h.hw.hwf x hx).1,(h.hw.hwf x hx).2.1⟩⟩
theorem Any.props {p:Pk} (h:Any p):∀ x∈p.props,x.id<256∧x.n<4294967296∧x.a.size≤9223372036854775807∧x.b.size≤9223372036854775807:=λx hx=>⟨(h.pw x hx).1,(h.pw x hx).2,by have:=(h.r.tp x hx).1;omega,by have:=(h.r.tp x hx).2;omega⟩
theorem Any.wprops {p:Pk} (h:Any p):∀ x∈p.willProps,x.id<256∧x.n<4294967296∧x.a.size≤9223372036854775807∧x.b.size≤9223372036854775807:=λx hx=>⟨(h.ww x hx).1,(h.ww x hx).2,by have:=(h.r.tw x hx).1;omega,by have:=(h.r.tw x hx).2;omega⟩
theorem j6b (n:Int) (w:World):(convert 3 28 (.int .i64 n)).run Tryz.prog w=.ok (.int .u64 (IntKind.u64.wrap n)) w:=by
 have u:=Tryz.underlying3;have u2:=Tryz.underlying28
 go_simp
theorem jBr (n:Nat) (w:World) (h:n<9223372036854775808):(convert 28 3 (.int .u64 (n:Int))).run Tryz.prog w=.ok (.int .i64 (n:Int)) w:=by
 have u:=Tryz.underlying3;have u2:=Tryz.underlying28;have e:IntKind.i64.wrap (n:Int)=n:=jL (by omega) (by omega)
 go_simp
 try exact e
theorem j6v (a:Int) (m:Nat) (h0:0<m) (h1:m≤1000):∃ k:Nat,(IntKind.u64.wrap a).tmod (m:Int)=(k:Int)∧k<m:=by
 have hw:0≤IntKind.u64.wrap a:=by
  rw[IntKind.wrap_u64];exact Int.emod_nonneg _ (by decide)
 have h2:=Int.tmod_nonneg (m:Int) hw;have h3:=Int.tmod_lt_of_pos (IntKind.u64.wrap a) (show (0:Int)<(m:Int) by omega);exact ⟨((IntKind.u64.wrap a).tmod m).toNat,by omega,by omega⟩
theorem j2t (s:ByteArray) (m:Nat) (w:World) (h:m≤s.size) (hs:s.size≤9223372036854775807):(Instr.sliceAt 9 (.string s) none (some (.int .i64 (m:Int))) none).run Tryz.prog w=.ok (.string (s.extract 0 m)) w:=by
 have u:=Tryz.underlying9;have h2:(m:Int)≤(s.size:Int):=by omega
 have h3:(0:Int)≤(m:Int):=by omega
 go_simp
def j9u (v:Int) (w:World) (e:Ending) (w':World):Prop:=∃ q s',e=.returned (Pk.val q s')∧q.At s' w'∧(∃ Q,q=jO Q∧FixQ v Q)∧(s'.ca=none→q.codes.length=0∧s'.cc=0)∧Kept No w w'
theorem jD0 {v k:Int} (hv:v=4∨v=5) (h:k=9∨(k=11∧v=5)):xH (sp v k)≠[]:=by
 rcases h with rfl|⟨rfl,rfl⟩
 ·rcases hv with rfl|rfl<;>decide +kernel
 ·decide +kernel
theorem jDf {v k:Int} (hv:v=4∨v=5) (h:k=9∨(k=11∧v=5)):ke v k (0:UInt8).toNat=true:=by
 rcases h with rfl|⟨rfl,rfl⟩
 ·rcases hv with rfl|rfl<;>decide +kernel
 ·decide +kernel
theorem jAv {p:Pk} {s:Sl} (h:s.ca=none→p.codes.length=0∧s.cc=0):(qH p s).ca=none→(jO p).codes.length=0∧(qH p s).cc=0:=by
 unfold qH jO;rcases j6w p.kind with k|k|k|k|k|k|k|k|k|k|k|k|k|⟨k1,k2,k3,k4,k5,k6,k7,k8,k9,k10,k11,k14,k15⟩
 all_goals (first|simp only[k,↓reduceIte,Int.reduceEq,or_self,or_true,true_or,false_or,or_false]|simp only[k1,k2,k3,k4,k5,k6,k7,k8,k9,k10,k11,k14,k15,↓reduceIte,or_self])
 all_goals first|exact h|(intro _;simp[zk];done)|simp[zk]
theorem j0s (n:Nat) (h:n<256):([Value.int .u8 (n:Int)]:List Value)=B8 [UInt8.ofNat n]:=by simp[B8];omega
theorem j5c (n:Nat) (h:n<256):(UInt8.ofNat n).toNat=n:=by simp;omega
theorem j5w {v k:Int} {t:ByteArray} {o:Nat} (hf:qW t=true) (h1:o<48) (h2:o % 4≠3) (h3:k=10→o=0) (h4:v=4→o≤2) (h5:vG t=true→o / 4 % 2=0):j2g v k ⟨t,o⟩=true:=by
 unfold j2g;simp only[hf]
 have g3:(decide (k=10)&&!decide (o=0))=false:=by
  by_cases h:k=10
  ·rw[h3 h];simp
  ·rw[decide_eq_false h];rfl
 have g4:(decide (v=4)&&decide (2<o))=false:=by
  by_cases h:v=4
  ·rw[decide_eq_false (by have:=h4 h;omega:¬ 2<o)];simp
  ·rw[decide_eq_false h];rfl
 have g5:(vG t&&decide (o / 4 % 2=1))=false:=by
  cases hs:vG t with
  | false=>rfl
  | true=>rw[decide_eq_false (by have:=h5 hs;omega:¬ o / 4 % 2=1)];rfl
 rw[decide_eq_false h2,g3,g4,decide_eq_false (by omega:¬ 48≤o),g5]
 rfl
end Go.Proofs.YtdeecgmihfakgaaGreatDoor
