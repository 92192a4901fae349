import Derived.Test.YtkochkhfbhjicaaGreatDoorYFZ
import Derived.Test.YtkochkhfbhjicaaGreatDoorYFK
import Derived.Test.YtkochkhfbhjicaaGreatDoorYG4
import Derived.Test.YtkochkhfbhjicaaGreatDoorYFW
namespace Go.Proofs.YtkochkhfbhjicaaGreatDoor
open Go.RowKit
set_option linter.unusedVariables false
set_option linter.unusedSimpArgs false
set_option maxRecDepth 100000
theorem j1q {n:Nat} (h:n<256):(jN (n:Int)).toNat=n:=by
 have:=xO (n:=(n:Int)) (by omega) (by omega)
 omega
theorem jAy (l r:List UInt8):qb (l.length:Int) (l++r) 0=l∧qt (l.length:Int) (l++r) 0=r∧qq (l.length:Int) (l++r) 0=0:=by
 have h1:(l.length:Int)≤((l++r).length:Int):=by rw[List.length_append];omega
 refine ⟨?_,?_,?_⟩
 ·unfold qb;rw[if_pos ⟨rfl,by omega,h1⟩];simp
 ·unfold qt;rw[if_pos rfl,if_pos ⟨by omega,h1⟩];simp
 ·unfold qq;rw[if_pos rfl,if_pos ⟨by omega,h1⟩]
theorem tk1 {n:Nat} (h:n<256) (t:List UInt8) (b:Bool):Ts.num 1 ⟨by1 n++t,0,b⟩=n∧Ts.rd 1 ⟨by1 n++t,0,b⟩=⟨t,0,b⟩:=by
 obtain ⟨h1,h2,h3⟩:=jAy (by1 n) t;rw[show ((by1 n).length:Int)=1 from rfl]at h1 h2 h3;unfold Ts.num Ts.rd;rw[h1,h2,h3];refine ⟨?_,rfl⟩;simp[by1,num,j1q h]
theorem tk2 {n:Nat} (h:n<65536) (t:List UInt8) (b:Bool):Ts.num 2 ⟨by2 n++t,0,b⟩=n∧Ts.rd 2 ⟨by2 n++t,0,b⟩=⟨t,0,b⟩:=by
 obtain ⟨h1,h2,h3⟩:=jAy (by2 n) t;rw[show ((by2 n).length:Int)=2 from rfl]at h1 h2 h3;unfold Ts.num Ts.rd;rw[h1,h2,h3];refine ⟨?_,rfl⟩;simp only[by2,num,List.foldl_cons,List.foldl_nil];rw[show (n:Int) / 256=((n / 256:Nat):Int) by omega,show (n:Int) % 256=((n % 256:Nat):Int) by omega,j1q (by omega),j1q (by omega)];omega
theorem tkB {s:ByteArray} (h:s.size≤65535) (t:List UInt8) (b:Bool):Ts.bin ⟨jR s++t,0,b⟩=s∧Ts.rdB ⟨jR s++t,0,b⟩=⟨t,0,b⟩:=by
 obtain ⟨h1,h2,h3⟩:=j17 s t h;unfold Ts.bin Ts.rdB;rw[h1,h2,h3];exact ⟨by simp,rfl⟩
theorem tkT {s:ByteArray} (h:s.size≤65535) (ho:jb s=true) (t:List UInt8) (b:Bool):Ts.rdT ⟨jR s++t,0,b⟩=⟨t,0,b⟩:=by
 obtain ⟨h1,h2⟩:=tkB h t b;unfold Ts.rdT;rw[h1,h2,ho];simp[Ts.need]
theorem tkS {v:Int} {L:List Pr} {n:Nat} (hw:∀ p∈L,p.wf') (h:v=4∨vL L 0=some n) (h4:v=4→L=[]) (t:List UInt8) (b:Bool):Ts.sec v ⟨qY v L++t,0,b⟩=jX L∧Ts.rdS v ⟨qY v L++t,0,b⟩=⟨t,0,b⟩:=by
 unfold Ts.sec Ts.rdS qY
 by_cases hv:v=4
 ·rw[if_pos hv,if_pos hv,if_pos hv,h4 hv]
  exact ⟨by unfold jX;simp,rfl⟩
 ·rw[if_neg hv,if_neg hv,if_neg hv]
  obtain ⟨h1,h2,h3,h5,h6⟩:=jAx [] t hw (h.resolve_left hv);rw[h1,List.nil_append];rw[h2,h3,h5];exact ⟨rfl,by simp[Ts.need]⟩
theorem tkR (t:List UInt8) (b:Bool):Ts.rest ⟨t,0,b⟩=⟨t.toArray⟩∧Ts.rdR ⟨t,0,b⟩=⟨[],0,b⟩:=⟨rfl,rfl⟩
def xZ (p:Pk):Pk:={p with props:=jX p.props,willProps:=jX p.willProps}
structure j3u (v:Int) (x:Pk):Prop where
 p:v=4∨∃ n,vL x.props 0=some n
 w:v=4∨∃ n,vL x.willProps 0=some n
 p4:v=4→x.props=[]
 w4:v=4→x.willProps=[]
theorem j6r {v:Int} {p:Pk} (hw:Wf p) (hl:j3u v p) (hc:p.code<256) (h4:v=4→p.code=0) (q:Pk) (b:Bool):j6q v {q with code:=0,props:=[]} ⟨vd v p,0,b⟩=({q with code:=p.code,props:=jX p.props},⟨[],0,b⟩):=by
 unfold vd
 by_cases h0:v=4∨(p.code=0∧p.props.length=0)
 ·rw[if_pos h0]
  have e1:p.code=0:=h0.elim h4 (·.1);have e2:p.props=[]:=h0.elim hl.p4 (λh=>List.eq_nil_of_length_eq_zero h.2);have e3:jX ([]:List Pr)=[]:=by unfold jX;simp
  rw[e1,e2,e3];exact if_pos (.inr rfl)
 ·rw[if_neg h0]
  have hv:v≠4:=λh=>h0 (.inl h)
  obtain ⟨n,hn⟩:=hl.p.resolve_left hv
  by_cases h1:p.props.length=0
  ·rw[if_pos h1]
   have e2:p.props=[]:=List.eq_nil_of_length_eq_zero h1;obtain ⟨k1,k2⟩:=tk1 hc [] b;rw[List.append_nil]at k1 k2;unfold j6q;rw[if_neg (by rintro (h|h);exact hv h;cases h),k2,if_pos (show (Ts.mk [] 0 b).l.length=0 from rfl),k1,e2];have e3:jX ([]:List Pr)=[]:=by unfold jX;simp
   rw[e3]
  ·rw[if_neg h1]
   obtain ⟨k1,k2⟩:=tk1 hc (qY v p.props) b;obtain ⟨s1,s2⟩:=tkS hw.p (.inr hn) hl.p4 [] b;rw[List.append_nil]at s1 s2
   have hne:(qY v p.props).length≠0:=by
    unfold qY;rw[if_neg hv]
    have:=(jAx [] [] hw.p hn).1
    rw[List.append_nil]at this;rw[this];have h9:=(xQ p.props 0 n hw.p hn (by omega)).1;cases hp:p.props with
    | nil=>rw[hp]at h1;exact absurd rfl h1
    | cons x l =>
     have:=jM3 (hw.p x (by rw[hp];exact List.mem_cons_self ..)) (h9 x (by rw[hp];exact List.mem_cons_self ..))
     intro h8;have h7:=List.eq_nil_of_length_eq_zero h8;simp only[List.nil_append,List.append_nil,List.append_eq_nil_iff]at h7;have h6:=h7.2;rw[qf]at h6;simp at h6;exact this h6.1
   unfold j6q;rw[if_neg (by rintro (h|h);exact hv h;cases h),k2,if_neg hne,k1,s1,s2]
theorem j7g (k:Int):∀ (L:List Fi) (n:Nat),L.length≤n→(∀ f∈L,jb f.text=true∧f.opt<256∧(k≠8→f.opt=0))→j2l k n ⟨vS k L,0,false⟩=(L,⟨[],0,false⟩)
 | [],n,_,_=>jBc (by rintro ⟨_,h⟩;exact absurd h (by show ¬ 0<([]:List UInt8).length;decide)) n
 | f :: L,0,h,_=>by simp at h
 | f :: L,n+1,h,hf=>by
  obtain ⟨h1,h2,h3⟩:=hf f (List.mem_cons_self ..);have ih:=j7g k L n (by simpa using h) (λg hg=>hf g (List.mem_cons_of_mem _ hg));have e0:vS k (f :: L)=jR f.text++((if k=8 then by1 f.opt else [])++vS k L):=by rw[vS,List.append_assoc]
  rw[e0,jGd ⟨rfl,by show 0<(jR f.text++_).length;rw[List.length_append,xt];omega⟩,tkT (jy h1) h1,(tkB (jy h1) _ _).1]
  by_cases hk:k=8
  ·rw[if_pos hk,if_pos hk,if_pos hk,(tk1 h2 _ _).1,(tk1 h2 _ _).2,ih]
  ·rw[if_neg hk,if_neg hk,if_neg hk,List.nil_append,ih,← h3 hk]
theorem jDw:∀ (r d:Bool) (q:Fin 4),((vG r 1+2*q.val+vG d 8) / 2 &&& 3)=q.val∧(!decide ((vG r 1+2*q.val+vG d 8) &&& 8=0))=d∧(!decide ((vG r 1+2*q.val+vG d 8) &&& 1=0))=r:=by decide +kernel
theorem jEk {v:Int} {p:Pk} (hw:Wf p) (hl:j3u v p) (hq:p.qos<4) (hid:p.id<65536) (hi:p.qos=0→p.id=0) (ht:jb p.topic=true):jH7 v (vG p.retain 1+2*p.qos+vG p.dup 8) ⟨j23 v p,0,false⟩=({zk 3 with dup:=p.dup,qos:=p.qos,retain:=p.retain,topic:=p.topic,id:=p.id,props:=jX p.props,load:=p.load},⟨[],0,false⟩):=by
 obtain ⟨b1,b2,b3⟩:=jDw p.retain p.dup ⟨p.qos,hq⟩;simp only at b1 b2 b3;obtain ⟨n,hn⟩:∃ n,v=4∨vL p.props 0=some n:=hl.p.elim (λh=>⟨0,.inl h⟩) (λ⟨n,h⟩=>⟨n,.inr h⟩);have e0:j23 v p=jR p.topic++((if p.qos=0 then [] else by2 p.id)++(qY v p.props++p.load.data.toList)):=by unfold j23;simp only[List.append_assoc]
 unfold jH7;dsimp only;rw[b1,b2,b3,e0,tkT (jy ht) ht,(tkB (jy ht) _ _).1]
 by_cases h0:p.qos=0
 ·rw[if_pos h0,if_pos h0,if_pos h0,List.nil_append,(tkS hw.p hn hl.p4 _ _).1,(tkS hw.p hn hl.p4 _ _).2,(tkR _ _).1,(tkR _ _).2,hi h0]
 ·rw[if_neg h0,if_neg h0,if_neg h0,(tk2 hid _ _).1,(tk2 hid _ _).2,(tkS hw.p hn hl.p4 _ _).1,(tkS hw.p hn hl.p4 _ _).2,(tkR _ _).1,(tkR _ _).2]
theorem j8i {v:Int} {p:Pk} (hw:Wf p) (hl:j3u v p) (hc:p.code<256):j5d v ⟨by1 (vG p.present 1)++by1 p.code++qY v p.props,0,false⟩=({zk 2 with present:=p.present,code:=p.code,props:=jX p.props},⟨[],0,false⟩):=by
 obtain ⟨n,hn⟩:∃ n,v=4∨vL p.props 0=some n:=hl.p.elim (λh=>⟨0,.inl h⟩) (λ⟨n,h⟩=>⟨n,.inr h⟩);have hb:vG p.present 1<256:=by unfold vG;split<;>omega
 have h1:(decide (vG p.present 1≤1))=true∧decide (vG p.present 1=1)=p.present:=by unfold vG;cases p.present<;>decide
 unfold j5d;dsimp only;rw[List.append_assoc,(tk1 hb _ _).1,(tk1 hb _ _).2,h1.1,h1.2];have e:Ts.need ⟨by1 p.code++qY v p.props,0,false⟩ true=⟨by1 p.code++qY v p.props,0,false⟩:=rfl;have hs:=tkS hw.p hn hl.p4 [] false;rw[List.append_nil]at hs;rw[e,(tk1 hc _ _).1,(tk1 hc _ _).2,hs.1,hs.2]
theorem jF4:∀ (c w r ps u:Bool) (q:Fin 4),let f:=vG c 2+vG w 4+8*q.val+vG r 32+vG ps 64+vG u 128
  f<256∧(!decide (f &&& 2=0))=c∧(!decide (f &&& 4=0))=w∧(f / 8 &&& 3)=q.val∧(!decide (f &&& 32=0))=r∧(!decide (f &&& 64=0))=ps∧(!decide (f &&& 128=0))=u∧decide (f &&& 1=0)=true∧((w=false∧q.val=0∧r=false)→decide (f &&& 56=0)=true):=by decide +kernel
theorem jF3 {v:Int} {p:Pk} (f:Nat) (hw:Wf p) (hl:j3u v p) (h4:(!decide (f &&& 4=0))=p.hasWill) (h8:(f / 8 &&& 3)=p.willQoS) (h32:(!decide (f &&& 32=0))=p.willRetain) (h56:p.hasWill=false→decide (f &&& 56=0)=true) (ht:p.hasWill=true→jb p.willTopic=true) (hd:p.willLoad.size≤65535) (h0:p.hasWill=false→p.willQoS=0∧p.willRetain=false∧p.willProps=[]∧p.willTopic=⟨#[]⟩∧p.willLoad=⟨#[]⟩) (q:Pk) (t:List UInt8) :
  j6y v f {q with hasWill:=false,willQoS:=0,willRetain:=false,willProps:=[],willTopic:=⟨#[]⟩,willLoad:=⟨#[]⟩} ⟨(if p.hasWill=true then qY v p.willProps++jR p.willTopic++jR p.willLoad else [])++t,0,false⟩=({q with hasWill:=p.hasWill,willQoS:=p.willQoS,willRetain:=p.willRetain,willProps:=jX p.willProps,willTopic:=p.willTopic,willLoad:=p.willLoad},⟨t,0,false⟩):=by
 obtain ⟨n,hn⟩:∃ n,v=4∨vL p.willProps 0=some n:=hl.w.elim (λh=>⟨0,.inl h⟩) (λ⟨n,h⟩=>⟨n,.inr h⟩);unfold j6y;rw[h4,h8,h32];rcases Bool.eq_false_or_eq_true p.hasWill with h|h
 ·rw[if_pos h,if_pos h]
  simp only[List.append_assoc];rw[(tkS hw.w hn hl.w4 _ _).1,(tkS hw.w hn hl.w4 _ _).2,(tkB (jy (ht h)) _ _).1,tkT (jy (ht h)) (ht h),(tkB hd _ _).1,(tkB hd _ _).2]
 ·obtain ⟨z1,z2,z3,z4,z5⟩:=h0 h
  have e3:jX ([]:List Pr)=[]:=by unfold jX;simp
  rw[if_neg (by rw[h];decide),if_neg (by rw[h];decide),h56 h,z1,z2,z3,z4,z5,e3,List.nil_append]
  rfl
theorem jF2 {p:Pk} (f:Nat) (h:(!decide (f &&& 128=0))=p.hasUser) (ht:jb p.user=true) (h0:p.hasUser=false→p.user=⟨#[]⟩) (q:Pk) (t:List UInt8):j6w f {q with hasUser:=false,user:=⟨#[]⟩} ⟨(if p.hasUser=true then jR p.user else [])++t,0,false⟩=({q with hasUser:=p.hasUser,user:=p.user},⟨t,0,false⟩):=by
 unfold j6w;rw[h];rcases Bool.eq_false_or_eq_true p.hasUser with h1|h1
 ·rw[if_pos h1,if_pos h1,(tkB (jy ht) _ _).1,tkT (jy ht) ht]
 ·rw[if_neg (by rw[h1];decide),if_neg (by rw[h1];decide),List.nil_append,h0 h1]
theorem jEg {p:Pk} (f:Nat) (h:(!decide (f &&& 64=0))=p.hasPass) (ht:p.pass.size≤65535) (h0:p.hasPass=false→p.pass=⟨#[]⟩) (q:Pk) (t:List UInt8):j7t f {q with hasPass:=false,pass:=⟨#[]⟩} ⟨(if p.hasPass=true then jR p.pass else [])++t,0,false⟩=({q with hasPass:=p.hasPass,pass:=p.pass},⟨t,0,false⟩):=by
 unfold j7t;rw[h];rcases Bool.eq_false_or_eq_true p.hasPass with h1|h1
 ·rw[if_pos h1,if_pos h1,(tkB ht _ _).1,(tkB ht _ _).2]
 ·rw[if_neg (by rw[h1];decide),if_neg (by rw[h1];decide),List.nil_append,h0 h1]
structure jP2 (p:Pk):Prop where
 keep:p.keep<65536
 wq:p.willQoS<4
 client:jb p.client=true
 wt:p.hasWill=true→jb p.willTopic=true
 wl:p.willLoad.size≤65535
 user:jb p.user=true
 pass:p.pass.size≤65535
 w0:p.hasWill=false→p.willQoS=0∧p.willRetain=false∧p.willProps=[]∧p.willTopic=⟨#[]⟩∧p.willLoad=⟨#[]⟩
 u0:p.hasUser=false→p.user=⟨#[]⟩
 p0:p.hasPass=false→p.pass=⟨#[]⟩
theorem j3l (s:Ts):s.need true=s:=by cases s;simp[Ts.need]
theorem jDs {v:Int} {p:Pk} (hv:v=4∨v=5) (hw:Wf p) (hl:j3u v p) (hc:jP2 p):jCm v ⟨j0a v p,0,false⟩=({zk 1 with clean:=p.clean,keep:=p.keep,client:=p.client,hasWill:=p.hasWill,hasUser:=p.hasUser,hasPass:=p.hasPass,willQoS:=p.willQoS,willRetain:=p.willRetain,willProps:=jX p.willProps,willTopic:=p.willTopic,willLoad:=p.willLoad,user:=p.user,pass:=p.pass,props:=jX p.props},⟨[],0,false⟩):=by
 obtain ⟨n,hn⟩:∃ n,v=4∨vL p.props 0=some n:=hl.p.elim (λh=>⟨0,.inl h⟩) (λ⟨n,h⟩=>⟨n,.inr h⟩);have hb:=jF4 p.clean p.hasWill p.willRetain p.hasPass p.hasUser ⟨p.willQoS,hc.wq⟩;simp only at hb;have hfl:qT p=vG p.clean 2+vG p.hasWill 4+8*p.willQoS+vG p.willRetain 32+vG p.hasPass 64+vG p.hasUser 128:=rfl;rw[← hfl]at hb;obtain ⟨hf,b2,b4,b8,b32,b64,b128,b1,b56⟩:=hb;have e0:j0a v p=jR j74++(by1 v.toNat++(by1 (qT p)++(by2 p.keep++(qY v p.props++(jR p.client++((if p.hasWill=true then qY v p.willProps++jR p.willTopic++jR p.willLoad else [])++((if p.hasUser=true then jR p.user else [])++((if p.hasPass=true then jR p.pass else [])++[])))))))):=by unfold j0a;simp only[List.append_assoc,List.append_nil]
 have hvn:v.toNat<256∧((v.toNat:Nat):Int)=v:=by omega
 have c1:jLe v ⟨j0a v p,0,false⟩=⟨by1 (qT p)++(by2 p.keep++(qY v p.props++(jR p.client++((if p.hasWill=true then qY v p.willProps++jR p.willTopic++jR p.willLoad else [])++((if p.hasUser=true then jR p.user else [])++((if p.hasPass=true then jR p.pass else [])++[])))))),0,false⟩:=by
  unfold jLe;rw[e0,(tkB (s:=j74) (by decide) _ _).1,(tkB (s:=j74) (by decide) _ _).2,decide_eq_true rfl,j3l,(tk1 hvn.1 _ _).1,(tk1 hvn.1 _ _).2,decide_eq_true hvn.2,j3l]
 have h1:jCm v ⟨j0a v p,0,false⟩=j7t (qT p) (j6w (qT p) (j6y v (qT p) {zk 1 with clean:=p.clean,keep:=p.keep,client:=p.client,props:=jX p.props} ⟨(if p.hasWill=true then qY v p.willProps++jR p.willTopic++jR p.willLoad else [])++((if p.hasUser=true then jR p.user else [])++((if p.hasPass=true then jR p.pass else [])++[])),0,false⟩).1 (j6y v (qT p) {zk 1 with clean:=p.clean,keep:=p.keep,client:=p.client,props:=jX p.props} ⟨(if p.hasWill=true then qY v p.willProps++jR p.willTopic++jR p.willLoad else [])++((if p.hasUser=true then jR p.user else [])++((if p.hasPass=true then jR p.pass else [])++[])),0,false⟩).2).1 (j6w (qT p) (j6y v (qT p) {zk 1 with clean:=p.clean,keep:=p.keep,client:=p.client,props:=jX p.props} ⟨(if p.hasWill=true then qY v p.willProps++jR p.willTopic++jR p.willLoad else [])++((if p.hasUser=true then jR p.user else [])++((if p.hasPass=true then jR p.pass else [])++[])),0,false⟩).1 (j6y v (qT p) {zk 1 with clean:=p.clean,keep:=p.keep,client:=p.client,props:=jX p.props} ⟨(if p.hasWill=true then qY v p.willProps++jR p.willTopic++jR p.willLoad else [])++((if p.hasUser=true then jR p.user else [])++((if p.hasPass=true then jR p.pass else [])++[])),0,false⟩).2).2:=by
  unfold jCm;dsimp only;rw[c1,(tk1 hf _ _).1,(tk1 hf _ _).2,b1,j3l,(tk2 hc.keep _ _).1,(tk2 hc.keep _ _).2,(tkS hw.p hn hl.p4 _ _).1,(tkS hw.p hn hl.p4 _ _).2,(tkB (jy hc.client) _ _).1,tkT (jy hc.client) hc.client,b2]
 have hW:=jF3 (qT p) hw hl b4 b8 b32 (λh=>b56 ⟨h,(hc.w0 h).1,(hc.w0 h).2.1⟩) hc.wt hc.wl hc.w0 {zk 1 with clean:=p.clean,keep:=p.keep,client:=p.client,props:=jX p.props} ((if p.hasUser=true then jR p.user else [])++((if p.hasPass=true then jR p.pass else [])++[]));have hU:=jF2 (p:=p) (qT p) b128 hc.user hc.u0 {zk 1 with clean:=p.clean,keep:=p.keep,client:=p.client,props:=jX p.props,hasWill:=p.hasWill,willQoS:=p.willQoS,willRetain:=p.willRetain,willProps:=jX p.willProps,willTopic:=p.willTopic,willLoad:=p.willLoad} ((if p.hasPass=true then jR p.pass else [])++[]);have hP:=jEg (p:=p) (qT p) b64 hc.pass hc.p0 {zk 1 with clean:=p.clean,keep:=p.keep,client:=p.client,props:=jX p.props,hasWill:=p.hasWill,willQoS:=p.willQoS,willRetain:=p.willRetain,willProps:=jX p.willProps,willTopic:=p.willTopic,willLoad:=p.willLoad,hasUser:=p.hasUser,user:=p.user} [];exact h1.trans ((congrArg (λw:Pk × Ts=>j7t (qT p) (j6w (qT p) w.1 w.2).1 (j6w (qT p) w.1 w.2).2) hW).trans ((congrArg (λu:Pk × Ts=>j7t (qT p) u.1 u.2) hU).trans hP))
theorem jN2 {p:Pk} (h1:p.kind=1) (hb0:p=jP p):p={zk 1 with clean:=p.clean,keep:=p.keep,client:=p.client,hasWill:=p.hasWill,hasUser:=p.hasUser,hasPass:=p.hasPass,willQoS:=p.willQoS,willRetain:=p.willRetain,willProps:=p.willProps,willTopic:=p.willTopic,willLoad:=p.willLoad,user:=p.user,pass:=p.pass,props:=p.props}∧(p.hasWill=false→p.willQoS=0∧p.willRetain=false∧p.willProps=[]∧p.willTopic=⟨#[]⟩∧p.willLoad=⟨#[]⟩)∧(p.hasUser=false→p.user=⟨#[]⟩)∧(p.hasPass=false→p.pass=⟨#[]⟩):=by
 have hb:=hb0;unfold jP at hb;rw[if_pos h1]at hb;have q1:p.willQoS=if p.hasWill=true then p.willQoS else 0:=congrArg Pk.willQoS hb
 have q2:p.willRetain=if p.hasWill=true then p.willRetain else false:=congrArg Pk.willRetain hb
 have q3:p.willProps=if p.hasWill=true then p.willProps else []:=congrArg Pk.willProps hb
 have q4:p.willTopic=if p.hasWill=true then p.willTopic else ⟨#[]⟩:=congrArg Pk.willTopic hb
 have q5:p.willLoad=if p.hasWill=true then p.willLoad else ⟨#[]⟩:=congrArg Pk.willLoad hb
 have q6:p.user=if p.hasUser=true then p.user else ⟨#[]⟩:=congrArg Pk.user hb
 have q7:p.pass=if p.hasPass=true then p.pass else ⟨#[]⟩:=congrArg Pk.pass hb
 refine ⟨?_,λh=>?_,λh=>?_,λh=>?_⟩
 ·rw[← q1,← q2,← q3,← q4,← q5,← q6,← q7]at hb
  exact hb
 ·have hn:¬ p.hasWill=true:=by rw[h];decide
  exact ⟨q1.trans (if_neg hn),q2.trans (if_neg hn),q3.trans (if_neg hn),q4.trans (if_neg hn),q5.trans (if_neg hn)⟩
 ·exact q6.trans (if_neg (by rw[h];decide))
 ·exact q7.trans (if_neg (by rw[h];decide))
theorem jGw:∀ c:Fin 256,(ke 4 4 c.val=true→c.val=0)∧(ke 4 5 c.val=true→c.val=0)∧(ke 4 6 c.val=true→c.val=0)∧(ke 4 7 c.val=true→c.val=0)∧(ke 4 14 c.val=true→c.val=0):=by decide +kernel
theorem jKh {v k:Int} {c:Nat} (hc:c<256) (hk:k=4∨k=5∨k=6∨k=7∨k=14) (h:ke v k c=true):v=4→c=0:=by
 rintro rfl
 have:=jGw ⟨c,hc⟩
 rcases hk with rfl|rfl|rfl|rfl|rfl
 ·exact this.1 h
 ·exact this.2.1 h
 ·exact this.2.2.1 h
 ·exact this.2.2.2.1 h
 ·exact this.2.2.2.2 h
theorem jCo (k:Int):∀ L:List Fi,L.length≤(vS k L).length
 | []=>Nat.le_refl _
 | f :: L=>by
  have:=jCo k L
  rw[vS,List.length_append,List.length_append,xt];simp only[List.length_cons];omega
theorem jFb {v:Int} {p:Pk} (hr:qj v p=true) (hF:Fit p) (hl:j3u v p):j2k v p.kind (qN p) ⟨xE v p,0,false⟩=(xZ p,⟨[],0,false⟩):=by
 have ri:=zL hr;have hw:=hF.wf;have hb:=ri.bare
 have hFB:q8 v p=true:=by
  unfold qj at hr;simp only[aE9]at hr;exact hr.2.2.2.1
 obtain ⟨n,hn⟩:∃ n,v=4∨vL p.props 0=some n:=hl.p.elim (λh=>⟨0,.inl h⟩) (λ⟨n,h⟩=>⟨n,.inr h⟩);unfold j2k xE
 by_cases h1:p.kind=1
 ·rw[if_pos h1,if_pos h1]
  obtain ⟨hb1,w0,u0,p0⟩:=jN2 h1 hb;unfold q8 at hFB;rw[if_pos h1]at hFB;unfold qk at hFB;simp only[aE9,dE9]at hFB;obtain ⟨q1,q2,q3,q4,-⟩:=hFB
  have hwt:p.hasWill=true→jb p.willTopic=true:=λh=>by
   rw[h]at q4;simp only[Bool.not_true,Bool.false_or,zA,aE9]at q4;have q5:=q4.2.1;unfold xD at q5;simp only[aE9]at q5;exact q5.1
  exact (jDs ri.hv hw hl ⟨hF.keep,by have:=ri.wq;omega,q1,hwt,ri.willLoad,q2,q3,w0,u0,p0⟩).trans (congrArg (λx:Pk=>(x,(⟨[],0,false⟩:Ts))) ((rfl:_=xZ {zk 1 with clean:=p.clean,keep:=p.keep,client:=p.client,hasWill:=p.hasWill,hasUser:=p.hasUser,hasPass:=p.hasPass,willQoS:=p.willQoS,willRetain:=p.willRetain,willProps:=p.willProps,willTopic:=p.willTopic,willLoad:=p.willLoad,user:=p.user,pass:=p.pass,props:=p.props}).trans (congrArg xZ hb1.symm)))
 rw[if_neg h1,if_neg h1];have e3:jX ([]:List Pr)=[]:=by unfold jX;simp
 unfold jP at hb;rw[if_neg h1]at hb
 by_cases h2:p.kind=2
 ·rw[if_pos h2,if_pos h2]
  rw[if_pos h2]at hb;refine (j8i hw hl hF.code).trans (congrArg (λx:Pk=>(x,(⟨[],0,false⟩:Ts))) (Eq.trans ?_ (congrArg xZ hb.symm)));unfold xZ;simp only[zk,e3]
 rw[if_neg h2,if_neg h2];rw[if_neg h2]at hb
 by_cases h3:p.kind=3
 ·rw[if_pos h3,if_pos h3]
  rw[if_pos h3]at hb;unfold q8 at hFB;rw[if_neg h1,if_neg h2,if_pos h3]at hFB;unfold j03 at hFB
  split at hFB
  ·cases hFB
  rename_i hA
  split at hFB
  ·cases hFB
  rename_i hB
  have hid:p.qos=0→p.id=0:=λh0=>by
   have hB':decide (p.id=0)=decide (p.qos=0):=Classical.not_not.1 hB;rw[decide_eq_true h0]at hB';exact of_decide_eq_true hB'
  have htop:jb p.topic=true:=by
   split at hFB
   ·rename_i h5
    have e:p.topic=⟨#[]⟩:=by
     have h0:=h5.2;cases ht:p.topic with
     | mk a =>
      rw[ht]at h0
      have:a=#[]:=Array.eq_empty_of_size_eq_zero h0
      rw[this]
    rw[e];decide +kernel
   ·unfold xD at hFB
    simp only[aE9]at hFB;exact hFB.1
  have hfl:qN p=vG p.retain 1+2*p.qos+vG p.dup 8:=if_pos h3;rw[hfl];refine (jEk hw hl (by have:=ri.qos;omega) hF.id hid htop).trans (congrArg (λx:Pk=>(x,(⟨[],0,false⟩:Ts))) (Eq.trans ?_ (congrArg xZ hb.symm)));unfold xZ;simp only[zk,e3]
 rw[if_neg h3,if_neg h3];rw[if_neg h3]at hb;unfold q8 at hFB;rw[if_neg h1,if_neg h2,if_neg h3]at hFB
 by_cases h4:p.kind=4∨p.kind=5∨p.kind=6∨p.kind=7
 ·rw[if_pos h4,if_pos h4]
  rw[if_pos h4]at hb hFB;simp only[aE9]at hFB;rw[(tk2 hF.id _ _).1,(tk2 hF.id _ _).2];refine (j6r hw hl hF.code (jKh hF.code (by omega) hFB.2) {zk p.kind with id:=p.id} false).trans (congrArg (λx:Pk=>(x,(⟨[],0,false⟩:Ts))) (Eq.trans ?_ (congrArg xZ hb.symm)));unfold xZ;simp only[zk,e3]
 rw[if_neg h4,if_neg h4];rw[if_neg h4]at hb hFB
 by_cases h8:p.kind=8∨p.kind=10
 ·rw[if_pos h8,if_pos h8]
  rw[if_pos h8]at hb hFB;simp only[aE9]at hFB;have hfs:=hFB.2;unfold vr at hfs;simp only[aE9,List.all_eq_true]at hfs
  have hff:∀ f∈p.filters,jb f.text=true∧f.opt<256∧(p.kind≠8→f.opt=0):=λf hf=>by
   obtain ⟨a1,a2⟩:=hfs.2.2 f hf;refine ⟨?_,hF.opt f hf,λhk=>?_⟩
   ·unfold qE at a1
    simp only[aE9]at a1;exact a1.1
   ·unfold j3m at a2
    rw[if_pos (show p.kind=10 by omega)]at a2;exact of_decide_eq_true a2
  rw[List.append_assoc,(tk2 hF.id _ _).1,(tk2 hF.id _ _).2,(tkS hw.p hn hl.p4 _ _).1,(tkS hw.p hn hl.p4 _ _).2,j7g p.kind p.filters _ (jCo p.kind p.filters) hff];refine congrArg (λx:Pk=>(x,(⟨[],0,false⟩:Ts))) (Eq.trans ?_ (congrArg xZ hb.symm));unfold xZ;simp only[zk,e3]
 rw[if_neg h8,if_neg h8];rw[if_neg h8]at hb hFB
 by_cases h9:p.kind=9∨p.kind=11
 ·rw[if_pos h9,if_pos h9]
  rw[if_pos h9]at hb;rw[List.append_assoc,(tk2 hF.id _ _).1,(tk2 hF.id _ _).2,(tkS hw.p hn hl.p4 _ _).1,(tkS hw.p hn hl.p4 _ _).2,(tkR _ _).2];refine congrArg (λx:Pk=>(x,(⟨[],0,false⟩:Ts))) (Eq.trans ?_ (congrArg xZ hb.symm));unfold xZ;simp only[zk,e3]
 rw[if_neg h9,if_neg h9];rw[if_neg h9]at hb hFB
 by_cases h14:p.kind=14∨p.kind=15
 ·rw[if_pos h14,if_pos h14]
  rw[if_pos h14]at hb
  have hc4:v=4→p.code=0:=λh5=>by
   by_cases h:p.kind=14
   ·rw[if_pos h]at hFB
    exact jKh hF.code (by omega) hFB h5
   ·exfalso
    unfold qj xN at hr;simp only[aE9,oE9,dE9]at hr
    have:=hr.1
    omega
  refine (j6r hw hl hF.code hc4 (zk p.kind) false).trans (congrArg (λx:Pk=>(x,(⟨[],0,false⟩:Ts))) (Eq.trans ?_ (congrArg xZ hb.symm)));unfold xZ;simp only[zk,e3]
 rw[if_neg h14,if_neg h14];rw[if_neg h14]at hb;refine congrArg (λx:Pk=>(x,(⟨[],0,false⟩:Ts))) (Eq.trans ?_ (congrArg xZ hb.symm));unfold xZ;simp only[zk,e3]
theorem jBf {v:Int} {p:Pk} (ri:Ri v p):qN p<16:=by
 have:=ri.qos
 unfold qN vG
 split
 ·split<;>split<;>omega
 ·split<;>omega
theorem jBh {v:Int} {p:Pk} (hr:qj v p=true) (h r:Nat):j5v v ⟨p.kind,qN p,h,r⟩=true:=by
 have ri:=zL hr
 have hE:xN v p.kind=true:=by
  unfold qj at hr;simp only[aE9]at hr;exact hr.1
 have hv:=ri.hv;unfold xN at hE;simp only[aE9,oE9,dE9]at hE
 have h9:(((!(decide (v=4)||decide (v=5)))||decide (p.kind=0))||(decide (v=4)&&decide (p.kind=15)))=false:=by
  have e0:decide (p.kind=0)=false:=decide_eq_false (by omega);rw[e0];rcases hv with rfl|rfl
  ·have e1:decide (p.kind=15)=false:=decide_eq_false (by omega)
   rw[e1];rfl
  ·rfl
 refine (jOp (h:=⟨p.kind,qN p,h,r⟩) h9).trans ?_;show (if p.kind=3 then true else if p.kind=6∨p.kind=8∨p.kind=10 then decide (qN p=2) else decide (qN p=0))=true;unfold qN
 by_cases h3:p.kind=3
 ·rw[if_pos h3]
 ·rw[if_neg h3,if_neg h3]
  by_cases h6:p.kind=6∨p.kind=8∨p.kind=10
  ·rw[if_pos h6,if_pos h6];rfl
  ·rw[if_neg h6,if_neg h6];rfl
theorem jFj {v:Int} {p:Pk} (hr:qj v p=true) (hF:Fit p):j21 (xp v p)=0∧j12 (xp v p)=⟨p.kind,qN p,((1+(vD (qD v p)).length:Nat):Int),qD v p⟩∧(xp v p).drop (1+(vD (qD v p)).length)=xE v p∧(xp v p).length=1+(vD (qD v p)).length+qD v p:=by
 have ri:=zL hr;have hfl:=jBf ri;have hk1:=ri.k1;have hk2:=ri.k2;have hlen:=j2h v p hF.wf
 have e:xp v p=jN ((16*p.kind.toNat+qN p:Nat):Int) :: (vD (qD v p)++xE v p):=by
  unfold xp;rw[if_pos hr];unfold jFh;rw[hlen]
  rfl
 have hS:j0m (xp v p)=(qD v p,xE v p,0):=by
  rw[e];unfold j0m;have t1:qt 1 (jN ((16*p.kind.toNat+qN p:Nat):Int) :: (vD (qD v p)++xE v p)) 0=vD (qD v p)++xE v p:=by unfold qt;rw[if_pos rfl,if_pos ⟨by decide,by simp only[List.length_cons];omega⟩];rfl
  have t2:qq 1 (jN ((16*p.kind.toNat+qN p:Nat):Int) :: (vD (qD v p)++xE v p)) 0=0:=by unfold qq;rw[if_pos rfl,if_pos ⟨by decide,by simp only[List.length_cons];omega⟩]
  rw[t1,t2];exact j9b _ _ ri.rest
 have hT:qb 1 (xp v p) 0=[jN ((16*p.kind.toNat+qN p:Nat):Int)]:=by rw[e];unfold qb;rw[if_pos ⟨rfl,by decide,by simp only[List.length_cons];omega⟩];rfl
 have hn:num [jN ((16*p.kind.toNat+qN p:Nat):Int)]=16*p.kind.toNat+qN p:=by
  have:=j1q (n:=16*p.kind.toNat+qN p) (by omega)
  simp only[num,List.foldl_cons,List.foldl_nil];omega
 have hL:(xp v p).length=1+(vD (qD v p)).length+qD v p:=by
  rw[e,List.length_cons,List.length_append,hlen];omega
 obtain ⟨h1,h2⟩:=jE2 (xp v p);refine ⟨h1.trans (by rw[hS]),?_,?_,hL⟩
 ·rw[h2 (by rw[hS]),hS,hT,hn,hL]
  have a1:(((16*p.kind.toNat+qN p) / 16:Nat):Int)=p.kind:=by omega
  have a2:(16*p.kind.toNat+qN p) % 16=qN p:=by omega
  have a3:((1+(vD (qD v p)).length+qD v p:Nat):Int) - ((xE v p).length:Int)=((1+(vD (qD v p)).length:Nat):Int):=by rw[hlen];omega
  rw[a1,a2,a3]
 ·rw[e,Nat.add_comm 1 (vD (qD v p)).length,List.drop_succ_cons,List.drop_left]
theorem jFg {v:Int} {p:Pk} (hr:qj v p=true) (hF:Fit p) (hl:j3u v p) (hs:xZ p=p):jI6 v (xp v p)=0∧jN4 v (xp v p)=p:=by
 obtain ⟨h1,h2,h3,h4⟩:=jFj hr hF;have hK:=jFb hr hF hl;rw[hs]at hK;have hF4:=jLt (v:=v) (K:=(p,⟨[],0,false⟩)) h2 ⟨h1,by rw[h4];show _=(((1+(vD (qD v p)).length:Nat):Int)+(qD v p:Int));omega,jBh hr _ _⟩ (by show j2k v p.kind (qN p) ⟨(xp v p).drop (1+(vD (qD v p)).length),0,false⟩=_;rw[h3];exact hK) rfl;have hv:=(zL hr).hv;have hD:=jLi (v:=v) (l:=xp v p) (by rcases hv with rfl|rfl<;>rfl) (by rw[hF4.1];rfl) (by rw[hF4.2];show (!qj v p)=false;rw[hr];rfl);exact ⟨hD.1,hD.2.trans hF4.2⟩
end Go.Proofs.YtkochkhfbhjicaaGreatDoor
