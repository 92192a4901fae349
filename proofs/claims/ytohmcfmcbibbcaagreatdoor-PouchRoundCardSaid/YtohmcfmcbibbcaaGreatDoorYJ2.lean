import Derived.Test.YtohmcfmcbibbcaaGreatDoorYH6
import Derived.Test.YtohmcfmcbibbcaaGreatDoorYFA
import Derived.Test.YtohmcfmcbibbcaaGreatDoorYFO
import Derived.Test.YtohmcfmcbibbcaaGreatDoorYFS
import Derived.Test.YtohmcfmcbibbcaaGreatDoorYFJ
import Derived.Test.YtohmcfmcbibbcaaGreatDoorYF7
import Derived.Test.YtohmcfmcbibbcaaGreatDoorYI2
import Derived.Test.YtohmcfmcbibbcaaGreatDoorYH4
import Derived.Test.YtohmcfmcbibbcaaGreatDoorYI8
namespace Go.Proofs.YtohmcfmcbibbcaaGreatDoor
open Go.RowKit
set_option linter.unusedVariables false
set_option linter.unusedSimpArgs false
set_option maxRecDepth 100000
def blR (l:List Nat):List UInt8:=l.map UInt8.ofNat
theorem bl_oneR (c:Nat) (h:c < 256):B8 (blR [c])=[.int .u8 c]:=by
 simp[blR,B8,UInt8.toNat_ofNat_of_lt' (show c < UInt8.size from h)]
theorem bl_appendR (l m:List Nat):blR (l++m)=blR l++blR m:=by simp[blR]
def Fl (l:List (Nat × Nat)) (j:Nat):List UInt8:=blR ((List.range j).filter (knownB l))
theorem Fl_yes (l:List (Nat × Nat)) (j:Nat) (h:knownB l j=true):Fl l (j+1)=Fl l j++blR [j]:=by
 unfold Fl;rw[List.range_succ,List.filter_append,bl_appendR];simp[h]
theorem Fl_no (l:List (Nat × Nat)) (j:Nat) (h:knownB l j=false):Fl l (j+1)=Fl l j:=by
 unfold Fl;rw[List.range_succ,List.filter_append,bl_appendR];simp[h,blR]
def Gives (w:World) (l:List UInt8) (e:Ending) (w':World):Prop :=
 ∃ v,e=.returned v∧w'.ownsRow w.heap.size 5 1 v l.length (B8 l)∧Kept No w w'
theorem gives_of {w w':World} {v:Value} {l:List UInt8} {n:Nat} {xs:List Value} (h:w'.ownsRow w.heap.size 5 1 v n xs) (hn:n=l.length) (hx:xs=B8 l) (hk:Kept No w w'):Gives w l (.returned v) w':=by
 subst hn hx;exact ⟨v,rfl,h,hk⟩
theorem own_keptNoR {w w':World} {base:Nat} {e:TypeId} {size n:Nat} {v:Value} {xs:List Value} (h:w.ownsRow base e size v n xs) (hk:Kept No w w'):w'.ownsRow base e size v n xs:=by
 refine ⟨h.1,?_⟩;rcases h.2 with hn|⟨g,cap,cur,hv,hb,hg,rest⟩
 ·exact .inl hn
 ·exact .inr ⟨g,cap,cur,hv,hb,(hk.block g (Array.getElem?_eq_some_iff.1 hg).1 (fun f=>f)).trans hg,rest⟩
theorem rall_any (v k:Int) (w:World) :
  Calls Tryz.prog 122 #[.int .i64 v,.int .i64 k] w (Gives w (blR (allL (sp v k)))):=by
 obtain ⟨i0,hi,hz0,hz1,hz2⟩:=info_parts info_u8;have cK:=fun c wx (hc:c < 256)=>rknown_any v k c wx hc
 have hA:Fl (sp v k) 256=blR (allL (sp v k)):=by unfold Fl;rw[all_filter]
 rw[← hA];clear hA;generalize sp v k=l at *;have HK:=Lib.hid cK;clear cK
 go_enter Tryz.func122,Tryz.ntmps122
 go_wp2
 go_loopw [5,6] (fun s i wr=>∃ (j:Nat) (p:List UInt8),i=.int .i64 j∧j≤256∧Hid (p=Fl l j)∧p.length≤j∧wr.ownsRow w.heap.size 5 1 s p.length (B8 p)∧Kept No w wr) (fun _ i _=>256 - (intOf i).toNat)
 case atStart=>exact ⟨0,[],rfl,by omega,Lib.hid rfl,by simp,World.ownsRow_nil _ _ _ _,Kept.refl _ _⟩
 case round =>
  obtain ⟨j,p,rfl,hj,HP,hpl,hown,hk⟩:=hrel;have hsz:=hk.size
  by_cases hlt:j < 256
  ·have hjI:(j:Int) < 256:=by omega
   rcases hY:knownB l j with _|_
   ·have HC:Hid (∀ wx,Calls Tryz.prog 91 #[.int .i64 v,.int .i64 k,.int .u8 j] wx fun e w'=>e=.returned (.bool false)∧Kept No wx w'):=Lib.hid (fun wx=>by have:=HK.out j wx hlt;rw[hY]at this;exact this)
    have HN:=Lib.hid (Fl_no l j hY);clear hY
    go_wp2_with (go_at_call 91;refine (HC.out _).mono ?_;rintro e w1 ⟨rfl,hk1⟩)
    go_roundw
    case rel=>exact ⟨j+1,p,by go_num,by omega,Lib.hid (by rw[HN.out,HP.out]),by omega,own_keptNoR hown hk1,hk.trans hk1⟩
    case measure=>simp[intOf];omega
   ·have HC:Hid (∀ wx,Calls Tryz.prog 91 #[.int .i64 v,.int .i64 k,.int .u8 j] wx fun e w'=>e=.returned (.bool true)∧Kept No wx w'):=Lib.hid (fun wx=>by have:=HK.out j wx hlt;rw[hY]at this;exact this)
    have HN:=Lib.hid (Fl_yes l j hY);clear hY
    go_wp2_with (first
     | (go_at_call 91;refine (HC.out _).mono ?_;rintro e w1 ⟨rfl,hk1⟩;have hown1:=own_keptNoR hown hk1)
     | (at_builtin;refine wpList_append_row _ rfl _ _ _ rfl w.heap.size 5 i0 _ 1 Tryz.underlying26 hi hz0 hz1 hz2 rfl _ _ _ rfl (hown1.alloc _) (some ⟨w1.heap.size,0,none⟩) 1 1 (B8 (blR [j])) rfl ?c1 ?c2 (by simp) (B8_one _) ?c3 ?c4 ?c5 ?_;rotate_right;intro v2 w2 hown2 hg2 hv2))
    case c1=>rw[bl_oneR j hlt];rfl
    case c2=>rw[bl_oneR j hlt];exact .of_cells (new_cells w1 _ _ _ rfl)
    case c3=>unfold maxLen;omega
    case c4=>omega
    case c5=>have:=hk1.size;simp;omega
    go_roundw
    case rel=>exact ⟨j+1,p++blR [j],by go_num,by omega,Lib.hid (by rw[HN.out,HP.out]),by simp[blR];omega,by simpa [B8_append,blR] using hown2,((hk.trans hk1).alloc _).grown hg2 (own_no hown1)⟩
    case measure=>simp[intOf];omega
  ·have hj6:j=256:=by omega
   go_wp2
   go_ret
   exact gives_of hown (by rw[HP.out,hj6]) (by rw[HP.out,hj6]) hk
def rfx (v k:Int) (n:Nat):Nat:=(allL (sp v k)).getD (n % (allL (sp v k)).length) 0
theorem rfx_lt (v k:Int) (n:Nat):rfx v k n < 256:=by
 unfold rfx;rw[List.getD_eq_getElem?_getD];rcases h:(allL (sp v k))[n % (allL (sp v k)).length]? with _|x
 ·simp
 ·obtain ⟨h1,h2⟩:=List.getElem?_eq_some_iff.1 h
  have:=(all_known v k _ h1).2
  simp only[Option.getD_some];omega
theorem rfx_known {v k:Int} {n:Nat} (h:allL (sp v k)≠[]):ke v k (rfx v k n)=true:=by
 have h0:0 < (allL (sp v k)).length:=List.length_pos_iff.2 h;have h1:n % (allL (sp v k)).length < (allL (sp v k)).length:=Nat.mod_lt _ h0;unfold rfx ke;rw[List.getD_eq_getElem?_getD,List.getElem?_eq_getElem h1];exact (all_known v k _ h1).1
theorem blR_get (v k:Int) (n:Nat) (l:List UInt8) (hl:l=blR (allL (sp v k))) (hlt:n % l.length < l.length):l[n % l.length].toNat=rfx v k n:=by
 subst hl;have e:(blR (allL (sp v k))).length=(allL (sp v k)).length:=by simp[blR]
 have h1:n % (allL (sp v k)).length < (allL (sp v k)).length:=by rw[e]at hlt;exact hlt
 have h8:=(all_known v k _ h1).2;unfold rfx;rw[List.getD_eq_getElem?_getD,List.getElem?_eq_getElem h1]
 have h2:((blR (allL (sp v k)))[n % (blR (allL (sp v k))).length]'hlt)=UInt8.ofNat ((allL (sp v k))[n % (allL (sp v k)).length]):=by
  simp[blR]
 rw[h2];simp only[Option.getD_some,UInt8.toNat_ofNat'];omega
theorem bare_kind (p:Pk):(bareP p).kind=p.kind:=by
 unfold bareP
 repeat' split
 all_goals simp_all [zk]
theorem fix6_fixok (L:List Pr) (k:Int) (hw:∀ p∈L,p.n < 4294967296):FixOk k (fix6 L k):=by
 unfold fix6;rcases hG:fixGo k [] (L.take 8) with _|out
 ·exact ⟨by simp,by simp[idf]⟩
 ·dsimp only
  obtain ⟨h1,h2⟩:=fixGo_ok (L.take 8) [] out (fun p hp=>hw p (List.mem_of_mem_take hp)) ⟨by simp,by simp[idf]⟩ hG;obtain ⟨g1,g2,g3⟩:=addM_ok h1;have hste:=sortL_ste (addM out);exact ⟨fun p hp=>g1.val p (sortL_mem.1 hp),fun i hi=>g1.once i (by rw[hste i];exact hi)⟩
def mA:Pr:=⟨21,0,⟨#[109]⟩,⟨#[]⟩⟩
theorem add_ok {k:Int} {M:List Pr} (h:FixOk k M) (hl:M.length≤9) (h21:(getL M 21).isSome=false) (hk:forB 21 k=true) :
  checkB k (sortL (M++[mA]))=true∧(getL (sortL (M++[mA])) 21).isSome=true∧∀ p∈sortL (M++[mA]),p.id < 256∧p.n < 4294967296∧p.a.size≤32∧p.b.size≤32:=by
 have hz:(idf 21 M).length=0:=by
  rcases Nat.eq_zero_or_pos (idf 21 M).length with q|q
  ·exact q
  ·rw[(getL_idf M 21).2 q]at h21;cases h21
 have hg:FixOk k (M++[mA]):=by
  refine ⟨fun p hp=>?_,fun i hi=>?_⟩
  ·rcases List.mem_append.1 hp with hp|hp
   ·exact h.val p hp
   ·rw[List.mem_singleton.1 hp]
    exact ⟨by decide +kernel,hk,by decide,by decide,by decide,by decide⟩
  ·rw[idf_append,List.length_append]at hi
   by_cases he:i=21
   ·subst he
    rw[hz,idf_pos (i:=21) (p:=mA) (L:=[]) rfl,show idf 21 ([]:List Pr)=[] from rfl]at hi;simp at hi
   ·rw[idf_neg (p:=mA) (fun e=>he e.symm),show idf i ([]:List Pr)=[] from rfl]at hi
    exact h.once i (by simpa using hi)
 have h2:(getL (M++[mA]) 21).isSome=true:=(getL_idf (M++[mA]) 21).2 (by rw[idf_append,List.length_append,idf_pos (i:=21) (p:=mA) (L:=[]) rfl];simp only[List.length_cons];omega);have hste:=sortL_ste (M++[mA]);have h3:(getL (sortL (M++[mA])) 21).isSome=true:=by rw[← getL_ste hste 21];exact h2
 refine ⟨?_,h3,fun p hp=>(hg.val p (sortL_mem.1 hp)).2.2⟩;unfold checkB;rw[sortL_length,decide_eq_true (by simp;omega),h3,chk_srt (sortL (M++[mA])) none (sortL_srt _) (fun p hp=>by have:=hg.val p (sortL_mem.1 hp);exact ⟨this.1,this.2.1⟩) (fun i hi=>hg.once i (by rw[hste i];exact hi)) (fun x hx=>by cases hx)]
 rfl
theorem ff_filter (s:ByteArray):filterB (ffS s)=true∧(ffS s).size≤40:=by
 have hl:=fM_lv s.data.toList;have hn:=fM_len s.data.toList;have hw:∀ x∈fM s.data.toList,wildL x=false∨x=[43]:=fun x hx=>(hl x hx).2.1
 have hj:(joinL (fM s.data.toList)).length≤14:=by
  have:=join_len (fM s.data.toList) 1 (fun x hx=>by
   simp only[fM,List.mem_cons,List.mem_map]at hx;rcases hx with rfl|⟨c,_,rfl⟩
   ·simp
   ·exact fsg_len _)
  omega
 have key:∀ b:Bool,filterB ⟨(preL b++ff1 s.data.toList).toArray⟩=true∧(ff1 s.data.toList).length≤16:=by
  intro b;unfold ff1
  split
  ·have e:joinL (fM s.data.toList)++[47,35]=joinL (fM s.data.toList++[[35]]):=by rw[join_snoc _ _ (by simp[fM])]
   refine ⟨(filter_made b (M:=fM s.data.toList++[[35]]) (by rw[e]) (by simp) (fun x hx=>?_) (by simp;omega) (okLev_hash _ hw) (by rw[← e];simp)).1,by simp;omega⟩;rcases List.mem_append.1 hx with hx|hx
   ·exact (hl x hx).1
   ·rw[List.mem_singleton.1 hx];exact lv_one (by decide) (by decide) (by decide) (by decide)
  ·refine ⟨(filter_made b (M:=fM s.data.toList) rfl (by simp[fM]) (fun x hx=>(hl x hx).1) (by omega) (okLev_all _ hw) ?_).1,by omega⟩
   simp only[fM];cases s.data.toList.take 6<;>simp[joinL]
 unfold ffS ffL
 split
 ·exact ⟨by decide +kernel,by show (#[35]:Array UInt8).size≤40;decide⟩
 ·unfold ff2
  split
  ·refine ⟨(key true).1,?_⟩
   show ([36,115,104,97,114,101,47,103,47]++ff1 s.data.toList).toArray.size≤40
   have:=(key true).2
   simp;omega
  ·refine ⟨(key false).1,?_⟩
   show (ff1 s.data.toList).toArray.size≤40
   have:=(key true).2
   simp;omega
theorem bare_bare (p:Pk):bareP (bareP p)=bareP p:=by
 unfold bareP;rcases kinds_or p.kind with k|k|k|k|k|k|k|k|k|k|k|k|k|⟨k1,k2,k3,k4,k5,k6,k7,k8,k9,k10,k11,k14,k15⟩
 ·simp only[k,↓reduceIte,zk]
  cases p.hasWill<;>cases p.hasUser<;>cases p.hasPass<;>rfl
 all_goals (first|(simp only[k,↓reduceIte,Int.reduceEq,or_self,or_true,true_or,false_or,or_false,zk];done)|simp only[k1,k2,k3,k4,k5,k6,k7,k8,k9,k10,k11,k14,k15,↓reduceIte,or_self,zk])
structure FixQ (v:Int) (q:Pk):Prop where
 k1:1≤q.kind
 k2:q.kind≤15
 k3:v=4→q.kind≤14
 qos:q.qos≤2
 dup:q.dup=true→q.qos≠0
 id:q.id < 65536
 id1:q.kind≠3→q.id≠0
 id3:q.kind=3→(q.id=0↔q.qos=0)
 keep:q.keep < 65536
 pass1:v=4→q.hasPass=true→q.hasUser=true
 client:okText q.client=true
 user:okText q.user=true
 sc:q.client.size≤40
 su:q.user.size≤40
 spl:q.pass.size≤40
 sw:q.willLoad.size≤40
 sl:q.load.size≤40
 clean:v=4→q.client.size=0→q.clean=true
 wq:q.willQoS≤2
 wt:nameB q.willTopic=true
 wts:q.willTopic.size≤40
 code:allL (sp v q.kind)≠[]→ke v q.kind q.code=true
 codel:q.code < 256
 pres:q.present=true→q.code=0
 pr4:v=4→q.props=[]∧q.willProps=[]
 pr:checkB q.kind q.props=true
 wpr:checkB 16 q.willProps=true
 pr15:q.kind=15→(getL q.props 21).isSome=true
 prn:q.props.length≤10
 wprn:q.willProps.length≤10
 prs:∀ x∈q.props,x.id < 256∧x.n < 4294967296∧x.a.size≤32∧x.b.size≤32
 wprs:∀ x∈q.willProps,x.id < 256∧x.n < 4294967296∧x.a.size≤32∧x.b.size≤32
 topic:nameB q.topic=true∨(v=5∧q.topic.size=0∧(getL q.props 35).isSome=true)
 tops:q.topic.size≤40
 fl1:1≤q.filters.length
 fl2:q.filters.length≤5
 fl:∀ f∈q.filters,optD v q.kind f=true∧f.opt < 256∧f.text.size≤40
 cl:q.codes.length≤5
 cl9:(q.kind=9∨(q.kind=11∧v=5))→1≤q.codes.length∧∀ c∈q.codes,ke v q.kind c.toNat=true
 cl0:¬ (q.kind=9∨(q.kind=11∧v=5))→q.codes=[]
 srt:Srt q.props
 wsrt:Srt q.willProps
theorem codes_some:∀ v:Fin 2,∀ k:Fin 16,(k.val=2∨k.val=4∨k.val=5∨k.val=6∨k.val=7∨k.val=14∨(k.val=15∧v.val=1))→allL (sp (4+(v.val:Int)) (k.val:Int))≠[]:=by decide +kernel
theorem codes_some' {v k:Int} (hv:v=4∨v=5) (h:k=2∨k=4∨k=5∨k=6∨k=7∨k=14∨(k=15∧v=5)):allL (sp v k)≠[]:=by
 obtain ⟨j,rfl⟩:∃ j:Nat,k=(j:Int):=⟨k.toNat,by omega⟩
 rcases hv with rfl|rfl
 ·exact codes_some 0 ⟨j,by omega⟩ (by simp only;omega)
 ·exact codes_some 1 ⟨j,by omega⟩ (by show j=2∨j=4∨j=5∨j=6∨j=7∨j=14∨(j=15∧1=1);omega)
theorem FixQ.right {v:Int} {q:Pk} (hv:v=4∨v=5) (h:FixQ v q):rightD v (bareP q)=true:=by
  have hk:=bare_kind q
  have hE:existsB v (bareP q).kind=true:=by
    rw[hk];unfold existsB;have h1:=h.k1;have h2:=h.k2;have h3:=h.k3;rcases hv with rfl|rfl
    · have h3:=h.k3 rfl
      simp;omega
    · simp;omega
  unfold rightD;rw[hE,decide_eq_true (bare_bare q).symm]
  have hP:(!(decide (v=4)&&(decide (0 < (bareP q).props.length)||decide (0 < (bareP q).willProps.length))))=true∧checkB (bareP q).kind (bareP q).props=true∧checkB 16 (bareP q).willProps=true:=by
    rw[hk]
    have e1:(bareP q).props=q.props∨(bareP q).props=[]:=by
      unfold bareP;repeat' split
      all_goals first|exact .inl rfl|exact .inr rfl
    have e2:(bareP q).willProps=q.willProps∨(bareP q).willProps=[]:=by
      unfold bareP;repeat' split
      all_goals first|exact .inl rfl|exact .inr rfl|(simp only;split<;>first|exact .inl rfl|exact .inr rfl)
    refine ⟨?_,?_,?_⟩
    · rcases hv with rfl|rfl
      · obtain ⟨p1,p2⟩:=h.pr4 rfl
        have g1:(bareP q).props=[]:=by rcases e1 with e|e<;>rw[e];exact p1
        have g2:(bareP q).willProps=[]:=by rcases e2 with e|e<;>rw[e];exact p2
        rw[g1,g2];rfl
      · rfl
    · rcases e1 with e|e<;>rw[e]
      · exact h.pr
      · rfl
    · rcases e2 with e|e<;>rw[e]
      · exact h.wpr
      · rfl
  rw[hP.1,hP.2.1,hP.2.2];simp only[Bool.true_and]
  have hid:(!(decide (4≤(bareP q).kind)&&(decide ((bareP q).kind≤11)&&decide ((bareP q).id=0))))=true:=by
    rw[hk]
    by_cases hr:4≤q.kind∧q.kind≤11
    · have e:(bareP q).id=q.id:=by
        unfold bareP;rw[if_neg (by omega),if_neg (by omega),if_neg (by omega)];rcases (show q.kind=4∨q.kind=5∨q.kind=6∨q.kind=7∨q.kind=8∨q.kind=9∨q.kind=10∨q.kind=11 from by omega) with k|k|k|k|k|k|k|k<;>simp[k]
      rw[e,decide_eq_false (h.id1 (by omega))];simp
    · by_cases h4:4≤q.kind
      · rw[decide_eq_false (by omega:¬ q.kind≤11)];simp
      · rw[decide_eq_false h4];rfl
  rw[hid];simp only[Bool.true_and,Bool.and_eq_true];refine ⟨?_,?_⟩
  · unfold listsD
    rw[hk]
    by_cases hf:q.kind=8∨q.kind=10
    · have e:(bareP q).filters=q.filters:=by
        unfold bareP;rcases hf with k|k<;>simp[k]
      have h2:=h.fl1;have h3:=h.fl2;rw[if_pos hf,e,decide_eq_true (by omega:1≤q.filters.length),decide_eq_true (by omega:q.filters.length≤1024),if_neg (by omega),decide_eq_false (by omega:¬ q.kind=11)];simp only[Bool.true_and,Bool.and_true,Bool.false_and,Bool.not_false];exact List.all_eq_true.2 fun f hf=>(h.fl f hf).1
    · rw[if_neg hf]
      by_cases hc:q.kind=9∨(q.kind=11∧v=5)
      · have e:(bareP q).codes=q.codes:=by
          unfold bareP;rcases hc with k|⟨k,_⟩<;>simp[k]
        obtain ⟨c1,c2⟩:=h.cl9 hc;have c3:=h.cl;rw[if_pos hc,e,decide_eq_true c1,decide_eq_true (by omega:q.codes.length≤1024),List.all_eq_true.2 c2];rcases hc with k|⟨k,rfl⟩
        · rw[decide_eq_false (by omega:¬ q.kind=11)];rfl
        · simp
      · rw[if_neg hc]
        have e:(bareP q).codes=[]:=by
          have:=h.cl0 hc
          unfold bareP;repeat' split
          all_goals first|rfl|exact this
        rw[e];simp
  · have hcs:=fun (hh:q.kind=2∨q.kind=4∨q.kind=5∨q.kind=6∨q.kind=7∨q.kind=14∨(q.kind=15∧v=5))=>h.code (codes_some' hv hh)
    unfold kindD;rw[hk];rcases (show q.kind=1∨q.kind=2∨q.kind=3∨q.kind=4∨q.kind=5∨q.kind=6∨q.kind=7∨q.kind=8∨q.kind=9∨q.kind=10∨q.kind=11∨q.kind=12∨q.kind=13∨q.kind=14∨q.kind=15 from by have:=h.k1;have:=h.k2;omega) with k|k|k|k|k|k|k|k|k|k|k|k|k|k|k
    · rw[if_pos k]
      unfold connectD bareP;rw[if_pos k];simp only[zk];have h1:=h.wq;have h2:=h.wt;have h3:=h.client;have h4:=h.user;have h5:=h.spl;have h6:=h.sw;have h7:=h.pass1;have h8:=h.clean;have u0:okText (if q.hasUser then q.user else ⟨#[]⟩)=true:=by split;exact h4;decide +kernel
      have p0:decide ((if q.hasPass then q.pass else ⟨#[]⟩).size≤65535)=true:=decide_eq_true (by split;omega;decide);have w0:decide ((if q.hasWill then q.willLoad else ⟨#[]⟩).size≤65535)=true:=decide_eq_true (by split;omega;decide);rw[u0,p0,w0,h3]
      have hx:(decide (v=4)&&((q.hasPass&&!q.hasUser)||(decide (q.client.size=0)&&!q.clean)))=false:=by
        rcases hv with rfl|rfl
        · have h7':=h7 rfl;have h8':=h8 rfl
          have g1:(q.hasPass&&!q.hasUser)=false:=by
            cases hp:q.hasPass with
            | false=>rfl
            | true=>rw[h7' hp];rfl
          have g2:(decide (q.client.size=0)&&!q.clean)=false:=by
            by_cases hc:q.client.size=0
            · rw[h8' hc];simp
            · rw[decide_eq_false hc];rfl
          rw[g1,g2];rfl
        · rfl
      rw[hx];cases hw:q.hasWill with
      | true =>
        simp only[↓reduceIte];rw[decide_eq_false (by omega:¬ 2 < q.willQoS),h2]
        rfl
      | false=>rfl
    · have e1:(bareP q).code=q.code∧(bareP q).present=q.present:=by unfold bareP;simp[k]
      have h1:=hcs (.inl k);rw[k]at h1 ⊢;rw[e1.1,e1.2,h1];cases hp:q.present with
      | false=>rfl
      | true=>rw[h.pres hp];rfl
    · rw[if_neg (by omega),if_neg (by omega),if_pos k]
      have e:(bareP q).qos=q.qos∧(bareP q).dup=q.dup∧(bareP q).id=q.id∧(bareP q).topic=q.topic∧(bareP q).props=q.props:=by unfold bareP;simp[k]
      obtain ⟨e1,e2,e3,e4,e5⟩:=e;unfold publishD;rw[e1,e2,e3,e4,e5];have h1:=h.qos;have h2:=h.dup;have h3:=h.id3 k
      rw[if_neg (by
        rintro (g|⟨g1,g2⟩|g)
        · omega
        · exact h2 g1 g2
        · exact g (by rw[Bool.eq_iff_iff];simpa using h3))]
      rcases h.topic with g|⟨g0,g1,g2⟩
      · rw[g];rfl
      · rw[g1,g2,decide_eq_true g0];simp
    all_goals first
      | (have e1:(bareP q).code=q.code:=by (unfold bareP;simp[k])
         have h1:=hcs (by omega);rw[k]at h1 ⊢;simp[e1,h1];done)
      | (simp[k];done)
      | (have hv5:v=5:=by (have:=h.k3;omega)
         subst hv5;have e1:(bareP q).code=q.code∧(bareP q).props=q.props:=by (unfold bareP;simp[k])
         have h1:=hcs (by omega);have h2:=h.pr15 k;rw[k]at h1 ⊢;simp[e1.1,e1.2,h1,h2])
structure Any (p:Pk):Prop where
 r:Reach p
 qos:p.qos < 256
 id:p.id < 65536
 keep:p.keep < 65536
 wq:p.willQoS < 256
 code:p.code < 256
 opt:∀ f∈p.filters,f.opt < 256
 pw:∀ x∈p.props,x.id < 256∧x.n < 4294967296
 ww:∀ x∈p.willProps,x.id < 256∧x.n < 4294967296
theorem Any.props {p:Pk} (h:Any p):∀ x∈p.props,x.id < 256∧x.n < 4294967296∧x.a.size≤9223372036854775807∧x.b.size≤9223372036854775807:=fun x hx=>⟨(h.pw x hx).1,(h.pw x hx).2,by have:=(h.r.tp x hx).1;omega,by have:=(h.r.tp x hx).2;omega⟩
theorem Any.wprops {p:Pk} (h:Any p):∀ x∈p.willProps,x.id < 256∧x.n < 4294967296∧x.a.size≤9223372036854775807∧x.b.size≤9223372036854775807:=fun x hx=>⟨(h.ww x hx).1,(h.ww x hx).2,by have:=(h.r.tw x hx).1;omega,by have:=(h.r.tw x hx).2;omega⟩
theorem codes_9 {v k:Int} (hv:v=4∨v=5) (h:k=9∨(k=11∧v=5)):allL (sp v k)≠[]:=by
 rcases h with rfl|⟨rfl,rfl⟩
 ·rcases hv with rfl|rfl<;>decide +kernel
 ·decide +kernel
theorem ke_zero {v k:Int} (hv:v=4∨v=5) (h:k=9∨(k=11∧v=5)):ke v k (0:UInt8).toNat=true:=by
 rcases h with rfl|⟨rfl,rfl⟩
 ·rcases hv with rfl|rfl<;>decide +kernel
 ·decide +kernel
theorem ownSl_cn {p:Pk} {s:Sl} (h:s.ca=none→p.codes.length=0∧s.cc=0):(ownSl p s).ca=none→(bareP p).codes.length=0∧(ownSl p s).cc=0:=by
 unfold ownSl bareP;rcases kinds_or p.kind with k|k|k|k|k|k|k|k|k|k|k|k|k|⟨k1,k2,k3,k4,k5,k6,k7,k8,k9,k10,k11,k14,k15⟩
 all_goals (first|simp only[k,↓reduceIte,Int.reduceEq,or_self,or_true,true_or,false_or,or_false]|simp only[k1,k2,k3,k4,k5,k6,k7,k8,k9,k10,k11,k14,k15,↓reduceIte,or_self])
 all_goals first|exact h|(intro _;simp[zk];done)|simp[zk]
theorem optD_mk {v k:Int} {t:ByteArray} {o:Nat} (hf:filterB t=true) (h1:o < 48) (h2:o % 4≠3) (h3:k=10→o=0) (h4:v=4→o≤2) (h5:sharedB t=true→o / 4 % 2=0):optD v k ⟨t,o⟩=true:=by
 unfold optD;simp only[hf]
 have g3:(decide (k=10)&&!decide (o=0))=false:=by
  by_cases h:k=10
  ·rw[h3 h];simp
  ·rw[decide_eq_false h];rfl
 have g4:(decide (v=4)&&decide (2 < o))=false:=by
  by_cases h:v=4
  ·rw[decide_eq_false (by have:=h4 h;omega:¬ 2 < o)];simp
  ·rw[decide_eq_false h];rfl
 have g5:(sharedB t&&decide (o / 4 % 2=1))=false:=by
  cases hs:sharedB t with
  | false=>rfl
  | true=>rw[decide_eq_false (by have:=h5 hs;omega:¬ o / 4 % 2=1)];rfl
 rw[decide_eq_false h2,g3,g4,decide_eq_false (by omega:¬ 48≤o),g5]
 rfl
def cutN (n:Int) (s:ByteArray):ByteArray:=s.extract 0 (min (s.size:Int) n).toNat
theorem cutN_len (n:Int) (s:ByteArray):(cutN n s).size≤n.toNat:=by unfold cutN;simp;omega
def fqK (v:Int) (p:Pk):Int:=1+p.kind % 18446744073709551616 % (if v=5 then 15 else 14)
theorem fqK_le (v:Int) (p:Pk):1≤fqK v p∧fqK v p≤15∧(v=4→fqK v p≤14):=by
 unfold fqK
 split
 ·omega
 ·omega
def fqI (v:Int) (p:Pk):Nat:=if fqK v p=3∧p.qos % 3=0 then 0 else if p.id=0 then 1 else p.id
def fqB (v:Int) (p:Pk):Pk:={ p with kind:=fqK v p,client:=fixS p.client,user:=fixS p.user,topic:=tfixS p.topic,willTopic:=tfixS p.willTopic,pass:=cutN 9 p.pass,willLoad:=cutN 9 p.willLoad,load:=cutN 40 p.load,qos:=p.qos % 3,willQoS:=p.willQoS % 3,dup:=p.dup&&decide ((0:Int) < ((p.qos % 3:Nat):Int)),id:=fqI v p,hasPass:=p.hasPass&&(decide (v=5)||p.hasUser),clean:=p.clean||(decide (v=4)&&decide (fixS p.client=⟨#[]⟩)),code:=rfx v (fqK v p) p.code,present:=p.present&&decide (((rfx v (fqK v p) p.code:Nat):Int)=0),props:=[],willProps:=[] }
structure FxP (v:Int) (p:Pk) (T:ByteArray) (L M:List Pr):Prop where
 pr4:v=4→L=[]∧M=[]
 pr:checkB (fqK v p) L=true
 wpr:checkB 16 M=true
 pr15:fqK v p=15→(getL L 21).isSome=true
 prn:L.length≤10
 wprn:M.length≤10
 prs:∀ x∈L,x.id < 256∧x.n < 4294967296∧x.a.size≤32∧x.b.size≤32
 wprs:∀ x∈M,x.id < 256∧x.n < 4294967296∧x.a.size≤32∧x.b.size≤32
 topic:nameB T=true∨(v=5∧T.size=0∧(getL L 35).isSome=true)
 tops:T.size≤40
 srt:Srt L
 wsrt:Srt M
theorem fxP_4 {p:Pk}:FxP 4 p (tfixS p.topic) [] []:=by
 have hk:=fqK_le 4 p;exact ⟨fun _=>⟨rfl,rfl⟩,rfl,rfl,fun h=>by omega,Nat.zero_le _,Nat.zero_le _,by simp,by simp,.inl (made_fix p.topic).name,by have:=(made_fix p.topic).size.2;omega,.nil,.nil⟩
theorem empty9 {s:ByteArray} (h:s.size=0):s=⟨#[]⟩:=ByteArray.ext (Array.eq_empty_of_size_eq_zero h)
def fqL (p:Pk):List Pr:=if fqK 5 p=15∧(getL (fix6 p.props (fqK 5 p)) 21).isSome=false then sortL (fix6 p.props (fqK 5 p)++[mA]) else fix6 p.props (fqK 5 p)
def fqT (p:Pk):ByteArray:=if (getL (fqL p) 35).isSome=true∧p.topic=⟨#[]⟩ then ⟨#[]⟩ else tfixS p.topic
theorem fxP_5 {p:Pk} (hY:Any p):FxP 5 p (fqT p) (fqL p) (fix6 p.willProps 16):=by
 obtain ⟨w1,w2,w3,w4⟩:=fix6_ok p.willProps 16 (fun x hx=>(hY.ww x hx).2);obtain ⟨u1,u2,u3,u4⟩:=fix6_ok p.props (fqK 5 p) (fun x hx=>(hY.pw x hx).2)
 have hL:checkB (fqK 5 p) (fqL p)=true∧(fqK 5 p=15→(getL (fqL p) 21).isSome=true)∧(fqL p).length≤10∧(∀ x∈fqL p,x.id < 256∧x.n < 4294967296∧x.a.size≤32∧x.b.size≤32)∧Srt (fqL p):=by
  unfold fqL
  by_cases h:fqK 5 p=15∧(getL (fix6 p.props (fqK 5 p)) 21).isSome=false
  ·rw[if_pos h]
   have hF:=fix6_fixok p.props (fqK 5 p) (fun x hx=>(hY.pw x hx).2);obtain ⟨a1,a2,a3⟩:=add_ok hF u2 h.2 (by rw[h.1];decide);exact ⟨a1,fun _=>a2,by rw[sortL_length,List.length_append];simp;omega,a3,sortL_srt _⟩
  ·rw[if_neg h]
   refine ⟨u1,fun q=>?_,by omega,fun x hx=>⟨(u4 x hx).2.1,(u4 x hx).2.2.1,(u4 x hx).2.2.2.1,(u4 x hx).2.2.2.2⟩,u3⟩;cases hq:(getL (fix6 p.props (fqK 5 p)) 21).isSome with
   | true=>rfl
   | false=>exact absurd ⟨q,hq⟩ h
 have hT:(nameB (fqT p)=true∨((5:Int)=5∧(fqT p).size=0∧(getL (fqL p) 35).isSome=true))∧(fqT p).size≤40:=by
  unfold fqT
  by_cases h:(getL (fqL p) 35).isSome=true∧p.topic=⟨#[]⟩
  ·rw[if_pos h];exact ⟨.inr ⟨rfl,rfl,h.1⟩,by decide⟩
  ·rw[if_neg h];exact ⟨.inl (made_fix p.topic).name,by have:=(made_fix p.topic).size.2;omega⟩
 exact ⟨fun h=>absurd h (by decide),hL.1,w1,hL.2.1,hL.2.2.1,by omega,hL.2.2.2.1,fun x hx=>⟨(w4 x hx).2.1,(w4 x hx).2.2.1,(w4 x hx).2.2.2.1,(w4 x hx).2.2.2.2⟩,hT.1,hT.2,hL.2.2.2.2,w3⟩
theorem fixQ_of {v:Int} {p:Pk} {T:ByteArray} {L M:List Pr} {fm:List Fi} {dl:List UInt8} (hv:v=4∨v=5) (hY:Any p) (hP:FxP v p T L M) (f1:1≤fm.length) (f2:fm.length≤5) (f3:∀ f∈fm,optD v (fqK v p) f=true∧f.opt < 256∧f.text.size≤40) (c1:dl.length≤5) (c2:(fqK v p=9∨(fqK v p=11∧v=5))→1≤dl.length∧∀ c∈dl,ke v (fqK v p) c.toNat=true) (c3:¬ (fqK v p=9∨(fqK v p=11∧v=5))→dl=[]):FixQ v { fqB v p with topic:=T,props:=L,willProps:=M,filters:=fm,codes:=dl }:=by
 have hk:=fqK_le v p;have hid:=hY.id
 have hi:fqI v p < 65536∧(fqK v p≠3→fqI v p≠0)∧(fqK v p=3→(fqI v p=0↔p.qos % 3=0)):=by
  unfold fqI
  split
  ·rename_i h;exact ⟨by omega,fun q=>absurd h.1 q,fun _=>by simp[h.2]⟩
  ·rename_i h
   split
   ·exact ⟨by omega,fun _=>by omega,fun q=>by simp at h ⊢;exact h q⟩
   ·rename_i h0
    exact ⟨hid,fun _=>h0,fun q=>⟨fun e=>absurd e h0,fun e=>absurd ⟨q,e⟩ h⟩⟩
 refine { k1:=hk.1,k2:=hk.2.1,k3:=hk.2.2,qos:=?_,dup:=?_,id:=hi.1,id1:=hi.2.1,id3:=hi.2.2,keep:=hY.keep,pass1:=?_,client:=fixS_ok _,user:=fixS_ok _,sc:=?_,su:=?_,spl:=?_,sw:=?_,sl:=?_,clean:=?_,wq:=?_,wt:=(made_fix _).name,wts:=?_,code:=rfx_known,codel:=rfx_lt _ _ _,pres:=?_,pr4:=hP.pr4,pr:=hP.pr,wpr:=hP.wpr,pr15:=hP.pr15,prn:=hP.prn,wprn:=hP.wprn,prs:=hP.prs,wprs:=hP.wprs,topic:=hP.topic,tops:=hP.tops,fl1:=f1,fl2:=f2,fl:=f3,cl:=c1,cl9:=c2,cl0:=c3,srt:=hP.srt,wsrt:=hP.wsrt }
 all_goals dsimp only [fqB]
 ·omega
 ·intro h;simp only[Bool.and_eq_true,decide_eq_true_eq]at h;omega
 ·intro h;subst h;cases p.hasPass<;>cases p.hasUser<;>simp
 ·have:=fixS_len p.client;omega
 ·have:=fixS_len p.user;omega
 ·have:=cutN_len 9 p.pass;omega
 ·have:=cutN_len 9 p.willLoad;omega
 ·have:=cutN_len 40 p.load;omega
 ·intro h g;subst h;rw[decide_eq_true (empty9 g)];cases p.clean<;>rfl
 ·omega
 ·have:=(made_fix p.willTopic).size.2;omega
 ·intro h;simp only[Bool.and_eq_true,decide_eq_true_eq]at h;omega
set_option maxHeartbeats 8000000
section
variable {c:World}
theorem ck_f2 {s:ByteArray} (hs:s.size≤140737488351232):Ck Tryz.prog 57 [.string s] c (.string (fixS s)):=ckOf Tryz.func57 fun w k=>fix_any s w (by omega)
theorem ck_f4 {s:ByteArray} (hs:s.size≤140737488351232):Ck Tryz.prog 58 [.string s] c (.string (tfixS s)):=ckOf Tryz.func58 fun w k=>tfix_any s w (by omega)
theorem ck_ff {s:ByteArray} (hs:s.size≤140737488351232):Ck Tryz.prog 63 [.string s] c (.string (ffS s)):=ckOf Tryz.func63 fun w k=>ffix_any s w (by omega)
theorem tn_rAll {v k:Int}:Tn Tryz.prog 122 [.int .i64 v,.int .i64 k] c (fun x:Option Addr × Nat=>.slice x.1 (blR (allL (sp v k))).length x.2) (fun x c'=>Own9 c' 5 x.1 (blR (allL (sp v k))).length x.2 (B8 (blR (allL (sp v k))))) :=
 Tn.own (k:=1) Tryz.func122 fun w _=>(rall_any v k w).mono fun e w' ⟨u,h1,h2,h3⟩=>by
  rcases h2.2 with ⟨hv,h0⟩|⟨g,cap,cur,hv,hr⟩
  ·exact ⟨none,0,by rw[h1,hv,h0],by rw[hv]at h2;rw[h0]at h2 ⊢;exact h2,h3⟩
  ·exact ⟨_,_,by rw[h1,hv],by rw[hv]at h2;exact h2,h3⟩
theorem ck_f3 {v k:Int} {n:Nat} (hn:n < 256):Ck Tryz.prog 59 [.int .i64 v,.int .i64 k,.int .u8 n] c (.int .u8 (rfx v k n)):=by
 obtain ⟨l,hl⟩:∃ l,l=blR (allL (sp v k)):=⟨_,rfl⟩
 have ta:=tn_rAll (c:=c) (v:=v) (k:=k);have hll:l.length=(allL (sp v k)).length:=by rw[hl];simp[blR]
 have hle:=all_len v k;rw[← hl]at ta
 by_cases h0:l.length=0
 ·have hz:allL (sp v k)=[]:=List.eq_nil_of_length_eq_zero (by omega)
  have e:rfx v k n=0:=by unfold rfx;rw[hz];rfl
  rw[e];refine Ck.in Tryz.func59 ?_;refine go ?_;refine vtn ta fun x c1 l1 o1=>?_
  refine go ?_;exact vri rfl
 ·have hj:n % l.length < l.length:=Nat.mod_lt _ (by omega)
  rw[← blR_get v k n l hl hj];refine Ck.in Tryz.func59 ?_;refine go ?_;refine vtn ta fun x c1 l1 o1=>?_
  obtain ⟨b5,o5,hR⟩:=(o1.row).by8 hj;refine go ?_;exact vri rfl
theorem tr_f6 {a:Option Addr} {n:Nat} {L:List Pr} {k:Int} (hr:Row c a (PC L)) (hl:L.length≤140737488351232) (hw:∀ p∈L,p.id < 256∧p.n < 4294967296∧p.a.size≤9223372036854775807∧p.b.size≤9223372036854775807):Tr Tryz.prog 60 [.slice a L.length n,.int .i64 k] c [] [] (fun x:Option Addr × Nat=>.slice x.1 (fix6 L k).length x.2) (fun _=>c) (fun _=>[]) (fun x=>[⟨123,4,.slice x.1 (fix6 L k).length x.2,(fix6 L k).length,PC (fix6 L k)⟩]) (fun _=>True) :=
 Tr.ownr Tryz.func60 fun w e=>rfix6_any a n L k w (hr.le e) (by omega) hw
theorem rget_all (a:Option Addr) (n:Nat) (L:List Pr) (x:Nat) (hl:L.length≤100000):∃ (i m:Nat) (A B:ByteArray),∀ c',Row c' a (PC L)→Ck Tryz.prog 61 [.slice a L.length n,.int .u8 x] c' (.tuple #[.agg #[.int .u8 i,.int .u32 m,.string A,.string B],.bool (getL L x).isSome]):=by
 obtain ⟨i,m,A,B,s,rfl,h⟩:=rgetp_at a n L x x rfl hl;exact ⟨i,m,A,B,fun c' hr=>ckOf Tryz.func61 fun w k=>h w (hr.le k)⟩
theorem tn_rsort {a:Option Addr} {n:Nat} {M:List Pr} (hr:Row c a (PC M)) (hn:a=none→M.length=0∧n=0) (hl:M.length≤100000):Tn Tryz.prog 62 [.slice a M.length n] c (fun x:Option Addr × Nat=>.slice x.1 (sortL M).length x.2) (fun x c'=>Own9 c' 123 x.1 (sortL M).length x.2 (PC (sortL M))):=by
 rw[sortL_length];exact Tn.own (k:=4) Tryz.func62 fun w e=>rsort_own a n M w (hr.le e) hn hl
end
section
variable {P:Program} {ops:Array Oper} {Q:Kn} {N n i fuel:Nat} {listed listed':List Bool} {L:List (Nat × Value)} {cH c:World} {H M:List Bl} {R:List Rwv} {ty:TypeId} {ps:String} {af:Array Edge} {gd:Option (Nat × Bool)}
theorem vqt0r {α:Type} {vf:α→Value} {cf:α→World} {r':α→Rwv} {φ:α→Prop} {f:Nat} {l:List Operand} {vs:List Value} {ats:Array TypeId} (hc:Tr P f vs c [] [] vf cf (fun _=>[]) (fun x=>[r' x]) φ) (k:∀ x,φ x→HG P ops Q cH H fuel listed' N ((n,vf x) :: L) (cf x) M (r' x :: R)) (hlc:∀ x,φ x→Le c (cf x):=by intro _ h;first|exact Le.refl _|exact h.1) (hH2:∀ x:α,∀ y∈H,y∈M:=by simp) (hxl:al1 ops listed=some i:=by rfl) (hi:ops[i]?=some ⟨some n,.call { callee:=.value (.func f),args:=l.toArray,argTypes:=ats },ty,ps,af,gd⟩:=by rfl) (hs9:setB listed i=some listed':=by rfl) (hv:lkos L l=some vs:=by rfl) (hr:Region.ready .any ops listed.toArray=[i]:=by kernel_rfl) (hw:wtd ops L gd=some true:=by rfl) (hn:Nat.blt n N=true:=by rfl) :
  HG P ops Q cH H (fuel+1) listed N L c M R:=HG.ta (M1:=[]) (R1:=[]) hc k hlc hH2 hi hs9 hv hr hw hn
end
end Go.Proofs.YtohmcfmcbibbcaaGreatDoor
