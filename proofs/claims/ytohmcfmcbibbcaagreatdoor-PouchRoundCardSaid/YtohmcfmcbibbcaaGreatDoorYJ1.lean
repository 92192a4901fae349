import Derived.Test.YtohmcfmcbibbcaaGreatDoorYH9
import Derived.Test.YtohmcfmcbibbcaaGreatDoorYI6
namespace Go.Proofs.YtohmcfmcbibbcaaGreatDoor
open Go.RowKit
set_option linter.unusedVariables false
set_option linter.unusedSimpArgs false
set_option maxRecDepth 100000
theorem byteOf_n9 {n:Nat} (h:n < 256):(byteOf (n:Int)).toNat=n:=by
 have:=byteOf_val (n:=(n:Int)) (by omega) (by omega)
 omega
theorem taken_at (l r:List UInt8):taken (l.length:Int) (l++r) 0=l∧leftL (l.length:Int) (l++r) 0=r∧leftE (l.length:Int) (l++r) 0=0:=by
 have h1:(l.length:Int)≤((l++r).length:Int):=by rw[List.length_append];omega
 refine ⟨?_,?_,?_⟩
 ·unfold taken;rw[if_pos ⟨rfl,by omega,h1⟩];simp
 ·unfold leftL;rw[if_pos rfl,if_pos ⟨by omega,h1⟩];simp
 ·unfold leftE;rw[if_pos rfl,if_pos ⟨by omega,h1⟩]
theorem tk1 {n:Nat} (h:n < 256) (t:List UInt8) (b:Bool):Ts.num 1 ⟨by1 n++t,0,b⟩=n∧Ts.rd 1 ⟨by1 n++t,0,b⟩=⟨t,0,b⟩:=by
 obtain ⟨h1,h2,h3⟩:=taken_at (by1 n) t;rw[show ((by1 n).length:Int)=1 from rfl]at h1 h2 h3;unfold Ts.num Ts.rd;rw[h1,h2,h3];refine ⟨?_,rfl⟩;simp[by1,num,byteOf_n9 h]
theorem tk2 {n:Nat} (h:n < 65536) (t:List UInt8) (b:Bool):Ts.num 2 ⟨by2 n++t,0,b⟩=n∧Ts.rd 2 ⟨by2 n++t,0,b⟩=⟨t,0,b⟩:=by
 obtain ⟨h1,h2,h3⟩:=taken_at (by2 n) t;rw[show ((by2 n).length:Int)=2 from rfl]at h1 h2 h3;unfold Ts.num Ts.rd;rw[h1,h2,h3];refine ⟨?_,rfl⟩;simp only[by2,num,List.foldl_cons,List.foldl_nil];rw[show (n:Int) / 256=((n / 256:Nat):Int) by omega,show (n:Int) % 256=((n % 256:Nat):Int) by omega,byteOf_n9 (by omega),byteOf_n9 (by omega)];omega
theorem tkB9 {s:ByteArray} (h:s.size≤65535) (t:List UInt8) (b:Bool):Ts.bin ⟨binBy s++t,0,b⟩=s∧Ts.rdB ⟨binBy s++t,0,b⟩=⟨t,0,b⟩:=by
 obtain ⟨h1,h2,h3⟩:=bin_back s t h;unfold Ts.bin Ts.rdB;rw[h1,h2,h3];exact ⟨by simp,rfl⟩
theorem tkT {s:ByteArray} (h:s.size≤65535) (ho:okText s=true) (t:List UInt8) (b:Bool):Ts.rdT ⟨binBy s++t,0,b⟩=⟨t,0,b⟩:=by
 obtain ⟨h1,h2⟩:=tkB9 h t b;unfold Ts.rdT;rw[h1,h2,ho];simp[Ts.need]
theorem tkS {v:Int} {L:List Pr} {n:Nat} (hw:∀ p∈L,p.wf') (h:v=4∨lenGo L 0=some n) (h4:v=4→L=[]) (t:List UInt8) (b:Bool):Ts.sec v ⟨secB v L++t,0,b⟩=sortL L∧Ts.rdS v ⟨secB v L++t,0,b⟩=⟨t,0,b⟩:=by
 unfold Ts.sec Ts.rdS secB
 by_cases hv:v=4
 ·rw[if_pos hv,if_pos hv,if_pos hv,h4 hv]
  exact ⟨by unfold sortL;simp,rfl⟩
 ·rw[if_neg hv,if_neg hv,if_neg hv]
  obtain ⟨h1,h2,h3,h5,h6⟩:=take_put [] t hw (h.resolve_left hv);rw[h1,List.nil_append];rw[h2,h3,h5];exact ⟨rfl,by simp[Ts.need]⟩
theorem tkR (t:List UInt8) (b:Bool):Ts.rest ⟨t,0,b⟩=⟨t.toArray⟩∧Ts.rdR ⟨t,0,b⟩=⟨[],0,b⟩:=⟨rfl,rfl⟩
def canon (p:Pk):Pk:={ p with props:=sortL p.props,willProps:=sortL p.willProps }
structure Lays9 (v:Int) (x:Pk):Prop where
 p:v=4∨∃ n,lenGo x.props 0=some n
 w:v=4∨∃ n,lenGo x.willProps 0=some n
 p4:v=4→x.props=[]
 w4:v=4→x.willProps=[]
theorem short_back {v:Int} {p:Pk} (hw:Wf p) (hl:Lays9 v p) (hc:p.code < 256) (h4:v=4→p.code=0) (q:Pk) (b:Bool):shortK v { q with code:=0,props:=[] } ⟨shortB v p,0,b⟩=({ q with code:=p.code,props:=sortL p.props },⟨[],0,b⟩):=by
 unfold shortB
 by_cases h0:v=4∨(p.code=0∧p.props.length=0)
 ·rw[if_pos h0]
  have e1:p.code=0:=h0.elim h4 (·.1);have e2:p.props=[]:=h0.elim hl.p4 (fun h=>List.eq_nil_of_length_eq_zero h.2);have e3:sortL ([]:List Pr)=[]:=by unfold sortL;simp
  rw[e1,e2,e3];exact if_pos (.inr rfl)
 ·rw[if_neg h0]
  have hv:v≠4:=fun h=>h0 (.inl h)
  obtain ⟨n,hn⟩:=hl.p.resolve_left hv
  by_cases h1:p.props.length=0
  ·rw[if_pos h1]
   have e2:p.props=[]:=List.eq_nil_of_length_eq_zero h1;obtain ⟨k1,k2⟩:=tk1 hc [] b;rw[List.append_nil]at k1 k2;unfold shortK;rw[if_neg (by rintro (h|h);exact hv h;cases h),k2,if_pos (show (Ts.mk [] 0 b).l.length=0 from rfl),k1,e2];have e3:sortL ([]:List Pr)=[]:=by unfold sortL;simp
   rw[e3]
  ·rw[if_neg h1]
   obtain ⟨k1,k2⟩:=tk1 hc (secB v p.props) b;obtain ⟨s1,s2⟩:=tkS hw.p (.inr hn) hl.p4 [] b;rw[List.append_nil]at s1 s2
   have hne:(secB v p.props).length≠0:=by
    unfold secB;rw[if_neg hv]
    have:=(take_put [] [] hw.p hn).1
    rw[List.append_nil]at this;rw[this];have h9:=(lenGo_some p.props 0 n hw.p hn (by omega)).1;cases hp:p.props with
    | nil=>rw[hp]at h1;exact absurd rfl h1
    | cons x l =>
     have:=lay_ne (hw.p x (by rw[hp];exact List.mem_cons_self ..)) (h9 x (by rw[hp];exact List.mem_cons_self ..))
     intro h8;have h7:=List.eq_nil_of_length_eq_zero h8;simp only[List.nil_append,List.append_nil,List.append_eq_nil_iff]at h7;have h6:=h7.2;rw[layAll]at h6;simp at h6;exact this h6.1
   unfold shortK;rw[if_neg (by rintro (h|h);exact hv h;cases h),k2,if_neg hne,k1,s1,s2]
theorem filt_back (k:Int):∀ (L:List Fi) (n:Nat),L.length≤n→(∀ f∈L,okText f.text=true∧f.opt < 256∧(k≠8→f.opt=0))→filtK k n ⟨filtB k L,0,false⟩=(L,⟨[],0,false⟩)
 | [],n,_,_=>filtK_stop (by rintro ⟨_,h⟩;exact absurd h (by show ¬ 0 < ([]:List UInt8).length;decide)) n
 | f :: L,0,h,_=>by simp at h
 | f :: L,n+1,h,hf=>by
  obtain ⟨h1,h2,h3⟩:=hf f (List.mem_cons_self ..);have ih:=filt_back k L n (by simpa using h) (fun g hg=>hf g (List.mem_cons_of_mem _ hg));have e0:filtB k (f :: L)=binBy f.text++((if k=8 then by1 f.opt else [])++filtB k L):=by rw[filtB,List.append_assoc]
  rw[e0,filtK_go ⟨rfl,by show 0 < (binBy f.text++_).length;rw[List.length_append,binBy_len];omega⟩,tkT (okText_size h1) h1,(tkB9 (okText_size h1) _ _).1]
  by_cases hk:k=8
  ·rw[if_pos hk,if_pos hk,if_pos hk,(tk1 h2 _ _).1,(tk1 h2 _ _).2,ih]
  ·rw[if_neg hk,if_neg hk,if_neg hk,List.nil_append,ih,← h3 hk]
theorem flag_back:∀ (r d:Bool) (q:Fin 4),((bitN r 1+2 * q.val+bitN d 8) / 2 &&& 3)=q.val∧(!decide ((bitN r 1+2 * q.val+bitN d 8) &&& 8=0))=d∧(!decide ((bitN r 1+2 * q.val+bitN d 8) &&& 1=0))=r:=by decide +kernel
theorem publ_back {v:Int} {p:Pk} (hw:Wf p) (hl:Lays9 v p) (hq:p.qos < 4) (hid:p.id < 65536) (hi:p.qos=0→p.id=0) (ht:okText p.topic=true):publK v (bitN p.retain 1+2 * p.qos+bitN p.dup 8) ⟨publB v p,0,false⟩=({ zk 3 with dup:=p.dup,qos:=p.qos,retain:=p.retain,topic:=p.topic,id:=p.id,props:=sortL p.props,load:=p.load },⟨[],0,false⟩):=by
 obtain ⟨b1,b2,b3⟩:=flag_back p.retain p.dup ⟨p.qos,hq⟩;simp only at b1 b2 b3;obtain ⟨n,hn⟩:∃ n,v=4∨lenGo p.props 0=some n:=hl.p.elim (fun h=>⟨0,.inl h⟩) (fun ⟨n,h⟩=>⟨n,.inr h⟩);have e0:publB v p=binBy p.topic++((if p.qos=0 then [] else by2 p.id)++(secB v p.props++p.load.data.toList)):=by unfold publB;simp only[List.append_assoc]
 unfold publK;dsimp only;rw[b1,b2,b3,e0,tkT (okText_size ht) ht,(tkB9 (okText_size ht) _ _).1]
 by_cases h0:p.qos=0
 ·rw[if_pos h0,if_pos h0,if_pos h0,List.nil_append,(tkS hw.p hn hl.p4 _ _).1,(tkS hw.p hn hl.p4 _ _).2,(tkR _ _).1,(tkR _ _).2,hi h0]
 ·rw[if_neg h0,if_neg h0,if_neg h0,(tk2 hid _ _).1,(tk2 hid _ _).2,(tkS hw.p hn hl.p4 _ _).1,(tkS hw.p hn hl.p4 _ _).2,(tkR _ _).1,(tkR _ _).2]
theorem connack_back {v:Int} {p:Pk} (hw:Wf p) (hl:Lays9 v p) (hc:p.code < 256):connackK v ⟨by1 (bitN p.present 1)++by1 p.code++secB v p.props,0,false⟩=({ zk 2 with present:=p.present,code:=p.code,props:=sortL p.props },⟨[],0,false⟩):=by
 obtain ⟨n,hn⟩:∃ n,v=4∨lenGo p.props 0=some n:=hl.p.elim (fun h=>⟨0,.inl h⟩) (fun ⟨n,h⟩=>⟨n,.inr h⟩);have hb:bitN p.present 1 < 256:=by unfold bitN;split<;>omega
 have h1:(decide (bitN p.present 1≤1))=true∧decide (bitN p.present 1=1)=p.present:=by unfold bitN;cases p.present<;>decide
 unfold connackK;dsimp only;rw[List.append_assoc,(tk1 hb _ _).1,(tk1 hb _ _).2,h1.1,h1.2];have e:Ts.need ⟨by1 p.code++secB v p.props,0,false⟩ true=⟨by1 p.code++secB v p.props,0,false⟩:=rfl;have hs:=tkS hw.p hn hl.p4 [] false;rw[List.append_nil]at hs;rw[e,(tk1 hc _ _).1,(tk1 hc _ _).2,hs.1,hs.2]
theorem will_bits:∀ (c w r ps u:Bool) (q:Fin 4),let f:=bitN c 2+bitN w 4+8 * q.val+bitN r 32+bitN ps 64+bitN u 128
  f < 256∧(!decide (f &&& 2=0))=c∧(!decide (f &&& 4=0))=w∧(f / 8 &&& 3)=q.val∧(!decide (f &&& 32=0))=r∧(!decide (f &&& 64=0))=ps∧(!decide (f &&& 128=0))=u∧decide (f &&& 1=0)=true∧((w=false∧q.val=0∧r=false)→decide (f &&& 56=0)=true):=by decide +kernel
theorem will_back {v:Int} {p:Pk} (f:Nat) (hw:Wf p) (hl:Lays9 v p) (h4:(!decide (f &&& 4=0))=p.hasWill) (h8:(f / 8 &&& 3)=p.willQoS) (h32:(!decide (f &&& 32=0))=p.willRetain) (h56:p.hasWill=false→decide (f &&& 56=0)=true) (ht:p.hasWill=true→okText p.willTopic=true) (hd:p.willLoad.size≤65535) (h0:p.hasWill=false→p.willQoS=0∧p.willRetain=false∧p.willProps=[]∧p.willTopic=⟨#[]⟩∧p.willLoad=⟨#[]⟩) (q:Pk) (t:List UInt8) :
  willK v f { q with hasWill:=false,willQoS:=0,willRetain:=false,willProps:=[],willTopic:=⟨#[]⟩,willLoad:=⟨#[]⟩ } ⟨(if p.hasWill=true then secB v p.willProps++binBy p.willTopic++binBy p.willLoad else [])++t,0,false⟩=({ q with hasWill:=p.hasWill,willQoS:=p.willQoS,willRetain:=p.willRetain,willProps:=sortL p.willProps,willTopic:=p.willTopic,willLoad:=p.willLoad },⟨t,0,false⟩):=by
 obtain ⟨n,hn⟩:∃ n,v=4∨lenGo p.willProps 0=some n:=hl.w.elim (fun h=>⟨0,.inl h⟩) (fun ⟨n,h⟩=>⟨n,.inr h⟩);unfold willK;rw[h4,h8,h32];rcases Bool.eq_false_or_eq_true p.hasWill with h|h
 ·rw[if_pos h,if_pos h]
  simp only[List.append_assoc];rw[(tkS hw.w hn hl.w4 _ _).1,(tkS hw.w hn hl.w4 _ _).2,(tkB9 (okText_size (ht h)) _ _).1,tkT (okText_size (ht h)) (ht h),(tkB9 hd _ _).1,(tkB9 hd _ _).2]
 ·obtain ⟨z1,z2,z3,z4,z5⟩:=h0 h
  have e3:sortL ([]:List Pr)=[]:=by unfold sortL;simp
  rw[if_neg (by rw[h];decide),if_neg (by rw[h];decide),h56 h,z1,z2,z3,z4,z5,e3,List.nil_append]
  rfl
theorem user_back {p:Pk} (f:Nat) (h:(!decide (f &&& 128=0))=p.hasUser) (ht:okText p.user=true) (h0:p.hasUser=false→p.user=⟨#[]⟩) (q:Pk) (t:List UInt8):userK f { q with hasUser:=false,user:=⟨#[]⟩ } ⟨(if p.hasUser=true then binBy p.user else [])++t,0,false⟩=({ q with hasUser:=p.hasUser,user:=p.user },⟨t,0,false⟩):=by
 unfold userK;rw[h];rcases Bool.eq_false_or_eq_true p.hasUser with h1|h1
 ·rw[if_pos h1,if_pos h1,(tkB9 (okText_size ht) _ _).1,tkT (okText_size ht) ht]
 ·rw[if_neg (by rw[h1];decide),if_neg (by rw[h1];decide),List.nil_append,h0 h1]
theorem pass_back {p:Pk} (f:Nat) (h:(!decide (f &&& 64=0))=p.hasPass) (ht:p.pass.size≤65535) (h0:p.hasPass=false→p.pass=⟨#[]⟩) (q:Pk) (t:List UInt8):passK f { q with hasPass:=false,pass:=⟨#[]⟩ } ⟨(if p.hasPass=true then binBy p.pass else [])++t,0,false⟩=({ q with hasPass:=p.hasPass,pass:=p.pass },⟨t,0,false⟩):=by
 unfold passK;rw[h];rcases Bool.eq_false_or_eq_true p.hasPass with h1|h1
 ·rw[if_pos h1,if_pos h1,(tkB9 ht _ _).1,(tkB9 ht _ _).2]
 ·rw[if_neg (by rw[h1];decide),if_neg (by rw[h1];decide),List.nil_append,h0 h1]
structure Con9 (p:Pk):Prop where
 keep:p.keep < 65536
 wq:p.willQoS < 4
 client:okText p.client=true
 wt:p.hasWill=true→okText p.willTopic=true
 wl:p.willLoad.size≤65535
 user:okText p.user=true
 pass:p.pass.size≤65535
 w0:p.hasWill=false→p.willQoS=0∧p.willRetain=false∧p.willProps=[]∧p.willTopic=⟨#[]⟩∧p.willLoad=⟨#[]⟩
 u0:p.hasUser=false→p.user=⟨#[]⟩
 p0:p.hasPass=false→p.pass=⟨#[]⟩
theorem need_true (s:Ts):s.need true=s:=by cases s;simp[Ts.need]
theorem conn_back {v:Int} {p:Pk} (hv:v=4∨v=5) (hw:Wf p) (hl:Lays9 v p) (hc:Con9 p):connK v ⟨connB v p,0,false⟩=({ zk 1 with clean:=p.clean,keep:=p.keep,client:=p.client,hasWill:=p.hasWill,hasUser:=p.hasUser,hasPass:=p.hasPass,willQoS:=p.willQoS,willRetain:=p.willRetain,willProps:=sortL p.willProps,willTopic:=p.willTopic,willLoad:=p.willLoad,user:=p.user,pass:=p.pass,props:=sortL p.props },⟨[],0,false⟩):=by
 obtain ⟨n,hn⟩:∃ n,v=4∨lenGo p.props 0=some n:=hl.p.elim (fun h=>⟨0,.inl h⟩) (fun ⟨n,h⟩=>⟨n,.inr h⟩);have hb:=will_bits p.clean p.hasWill p.willRetain p.hasPass p.hasUser ⟨p.willQoS,hc.wq⟩;simp only at hb;have hfl:conFlN p=bitN p.clean 2+bitN p.hasWill 4+8 * p.willQoS+bitN p.willRetain 32+bitN p.hasPass 64+bitN p.hasUser 128:=rfl;rw[← hfl]at hb;obtain ⟨hf,b2,b4,b8,b32,b64,b128,b1,b56⟩:=hb;have e0:connB v p=binBy mqtt++(by1 v.toNat++(by1 (conFlN p)++(by2 p.keep++(secB v p.props++(binBy p.client++((if p.hasWill=true then secB v p.willProps++binBy p.willTopic++binBy p.willLoad else [])++((if p.hasUser=true then binBy p.user else [])++((if p.hasPass=true then binBy p.pass else [])++[])))))))):=by unfold connB;simp only[List.append_assoc,List.append_nil]
 have hvn:v.toNat < 256∧((v.toNat:Nat):Int)=v:=by omega
 have c1:conF v ⟨connB v p,0,false⟩=⟨by1 (conFlN p)++(by2 p.keep++(secB v p.props++(binBy p.client++((if p.hasWill=true then secB v p.willProps++binBy p.willTopic++binBy p.willLoad else [])++((if p.hasUser=true then binBy p.user else [])++((if p.hasPass=true then binBy p.pass else [])++[])))))),0,false⟩:=by
  unfold conF;rw[e0,(tkB9 (s:=mqtt) (by decide) _ _).1,(tkB9 (s:=mqtt) (by decide) _ _).2,decide_eq_true rfl,need_true,(tk1 hvn.1 _ _).1,(tk1 hvn.1 _ _).2,decide_eq_true hvn.2,need_true]
 have h1:connK v ⟨connB v p,0,false⟩=passK (conFlN p) (userK (conFlN p) (willK v (conFlN p) { zk 1 with clean:=p.clean,keep:=p.keep,client:=p.client,props:=sortL p.props } ⟨(if p.hasWill=true then secB v p.willProps++binBy p.willTopic++binBy p.willLoad else [])++((if p.hasUser=true then binBy p.user else [])++((if p.hasPass=true then binBy p.pass else [])++[])),0,false⟩).1 (willK v (conFlN p) { zk 1 with clean:=p.clean,keep:=p.keep,client:=p.client,props:=sortL p.props } ⟨(if p.hasWill=true then secB v p.willProps++binBy p.willTopic++binBy p.willLoad else [])++((if p.hasUser=true then binBy p.user else [])++((if p.hasPass=true then binBy p.pass else [])++[])),0,false⟩).2).1 (userK (conFlN p) (willK v (conFlN p) { zk 1 with clean:=p.clean,keep:=p.keep,client:=p.client,props:=sortL p.props } ⟨(if p.hasWill=true then secB v p.willProps++binBy p.willTopic++binBy p.willLoad else [])++((if p.hasUser=true then binBy p.user else [])++((if p.hasPass=true then binBy p.pass else [])++[])),0,false⟩).1 (willK v (conFlN p) { zk 1 with clean:=p.clean,keep:=p.keep,client:=p.client,props:=sortL p.props } ⟨(if p.hasWill=true then secB v p.willProps++binBy p.willTopic++binBy p.willLoad else [])++((if p.hasUser=true then binBy p.user else [])++((if p.hasPass=true then binBy p.pass else [])++[])),0,false⟩).2).2:=by
  unfold connK;dsimp only;rw[c1,(tk1 hf _ _).1,(tk1 hf _ _).2,b1,need_true,(tk2 hc.keep _ _).1,(tk2 hc.keep _ _).2,(tkS hw.p hn hl.p4 _ _).1,(tkS hw.p hn hl.p4 _ _).2,(tkB9 (okText_size hc.client) _ _).1,tkT (okText_size hc.client) hc.client,b2]
 have hW:=will_back (conFlN p) hw hl b4 b8 b32 (fun h=>b56 ⟨h,(hc.w0 h).1,(hc.w0 h).2.1⟩) hc.wt hc.wl hc.w0 { zk 1 with clean:=p.clean,keep:=p.keep,client:=p.client,props:=sortL p.props } ((if p.hasUser=true then binBy p.user else [])++((if p.hasPass=true then binBy p.pass else [])++[]));have hU:=user_back (p:=p) (conFlN p) b128 hc.user hc.u0 { zk 1 with clean:=p.clean,keep:=p.keep,client:=p.client,props:=sortL p.props,hasWill:=p.hasWill,willQoS:=p.willQoS,willRetain:=p.willRetain,willProps:=sortL p.willProps,willTopic:=p.willTopic,willLoad:=p.willLoad } ((if p.hasPass=true then binBy p.pass else [])++[]);have hP:=pass_back (p:=p) (conFlN p) b64 hc.pass hc.p0 { zk 1 with clean:=p.clean,keep:=p.keep,client:=p.client,props:=sortL p.props,hasWill:=p.hasWill,willQoS:=p.willQoS,willRetain:=p.willRetain,willProps:=sortL p.willProps,willTopic:=p.willTopic,willLoad:=p.willLoad,hasUser:=p.hasUser,user:=p.user } [];exact h1.trans ((congrArg (fun w:Pk × Ts=>passK (conFlN p) (userK (conFlN p) w.1 w.2).1 (userK (conFlN p) w.1 w.2).2) hW).trans ((congrArg (fun u:Pk × Ts=>passK (conFlN p) u.1 u.2) hU).trans hP))
theorem bare1 {p:Pk} (h1:p.kind=1) (hb0:p=bareP p):p={ zk 1 with clean:=p.clean,keep:=p.keep,client:=p.client,hasWill:=p.hasWill,hasUser:=p.hasUser,hasPass:=p.hasPass,willQoS:=p.willQoS,willRetain:=p.willRetain,willProps:=p.willProps,willTopic:=p.willTopic,willLoad:=p.willLoad,user:=p.user,pass:=p.pass,props:=p.props }∧(p.hasWill=false→p.willQoS=0∧p.willRetain=false∧p.willProps=[]∧p.willTopic=⟨#[]⟩∧p.willLoad=⟨#[]⟩)∧(p.hasUser=false→p.user=⟨#[]⟩)∧(p.hasPass=false→p.pass=⟨#[]⟩):=by
 have hb:=hb0;unfold bareP at hb;rw[if_pos h1]at hb;have q1:p.willQoS=if p.hasWill=true then p.willQoS else 0:=congrArg Pk.willQoS hb
 have q2:p.willRetain=if p.hasWill=true then p.willRetain else false:=congrArg Pk.willRetain hb
 have q3:p.willProps=if p.hasWill=true then p.willProps else []:=congrArg Pk.willProps hb
 have q4:p.willTopic=if p.hasWill=true then p.willTopic else ⟨#[]⟩:=congrArg Pk.willTopic hb
 have q5:p.willLoad=if p.hasWill=true then p.willLoad else ⟨#[]⟩:=congrArg Pk.willLoad hb
 have q6:p.user=if p.hasUser=true then p.user else ⟨#[]⟩:=congrArg Pk.user hb
 have q7:p.pass=if p.hasPass=true then p.pass else ⟨#[]⟩:=congrArg Pk.pass hb
 refine ⟨?_,fun h=>?_,fun h=>?_,fun h=>?_⟩
 ·rw[← q1,← q2,← q3,← q4,← q5,← q6,← q7]at hb
  exact hb
 ·have hn:¬ p.hasWill=true:=by rw[h];decide
  exact ⟨q1.trans (if_neg hn),q2.trans (if_neg hn),q3.trans (if_neg hn),q4.trans (if_neg hn),q5.trans (if_neg hn)⟩
 ·exact q6.trans (if_neg (by rw[h];decide))
 ·exact q7.trans (if_neg (by rw[h];decide))
theorem ke4_zero:∀ c:Fin 256,(ke 4 4 c.val=true→c.val=0)∧(ke 4 5 c.val=true→c.val=0)∧(ke 4 6 c.val=true→c.val=0)∧(ke 4 7 c.val=true→c.val=0)∧(ke 4 14 c.val=true→c.val=0):=by decide +kernel
theorem code4 {v k:Int} {c:Nat} (hc:c < 256) (hk:k=4∨k=5∨k=6∨k=7∨k=14) (h:ke v k c=true):v=4→c=0:=by
 rintro rfl
 have:=ke4_zero ⟨c,hc⟩
 rcases hk with rfl|rfl|rfl|rfl|rfl
 ·exact this.1 h
 ·exact this.2.1 h
 ·exact this.2.2.1 h
 ·exact this.2.2.2.1 h
 ·exact this.2.2.2.2 h
theorem filt_le (k:Int):∀ L:List Fi,L.length≤(filtB k L).length
 | []=>Nat.le_refl _
 | f :: L=>by
  have:=filt_le k L
  rw[filtB,List.length_append,List.length_append,binBy_len];simp only[List.length_cons];omega
theorem beh_back {v:Int} {p:Pk} (hr:rightP v p=true) (hF:Fit p) (hl:Lays9 v p):fieldsK v p.kind (flagsN p) ⟨behB v p,0,false⟩=(canon p,⟨[],0,false⟩):=by
 have ri:=right_ri hr;have hw:=hF.wf;have hb:=ri.bare
 have hFB:fieldsB v p=true:=by
  unfold rightP at hr;simp only[Bool.and_eq_true]at hr;exact hr.2.2.2.1
 obtain ⟨n,hn⟩:∃ n,v=4∨lenGo p.props 0=some n:=hl.p.elim (fun h=>⟨0,.inl h⟩) (fun ⟨n,h⟩=>⟨n,.inr h⟩);unfold fieldsK behB
 by_cases h1:p.kind=1
 ·rw[if_pos h1,if_pos h1]
  obtain ⟨hb1,w0,u0,p0⟩:=bare1 h1 hb;unfold fieldsB at hFB;rw[if_pos h1]at hFB;unfold connectB at hFB;simp only[Bool.and_eq_true,decide_eq_true_eq]at hFB;obtain ⟨q1,q2,q3,q4,-⟩:=hFB
  have hwt:p.hasWill=true→okText p.willTopic=true:=fun h=>by
   rw[h]at q4;simp only[Bool.not_true,Bool.false_or,willOkB,Bool.and_eq_true]at q4;have q5:=q4.2.1;unfold nameB at q5;simp only[Bool.and_eq_true]at q5;exact q5.1
  exact (conn_back ri.hv hw hl ⟨hF.keep,by have:=ri.wq;omega,q1,hwt,ri.willLoad,q2,q3,w0,u0,p0⟩).trans (congrArg (fun x:Pk=>(x,(⟨[],0,false⟩:Ts))) ((rfl:_=canon { zk 1 with clean:=p.clean,keep:=p.keep,client:=p.client,hasWill:=p.hasWill,hasUser:=p.hasUser,hasPass:=p.hasPass,willQoS:=p.willQoS,willRetain:=p.willRetain,willProps:=p.willProps,willTopic:=p.willTopic,willLoad:=p.willLoad,user:=p.user,pass:=p.pass,props:=p.props }).trans (congrArg canon hb1.symm)))
 rw[if_neg h1,if_neg h1];have e3:sortL ([]:List Pr)=[]:=by unfold sortL;simp
 unfold bareP at hb;rw[if_neg h1]at hb
 by_cases h2:p.kind=2
 ·rw[if_pos h2,if_pos h2]
  rw[if_pos h2]at hb;refine (connack_back hw hl hF.code).trans (congrArg (fun x:Pk=>(x,(⟨[],0,false⟩:Ts))) (Eq.trans ?_ (congrArg canon hb.symm)));unfold canon;simp only[zk,e3]
 rw[if_neg h2,if_neg h2];rw[if_neg h2]at hb
 by_cases h3:p.kind=3
 ·rw[if_pos h3,if_pos h3]
  rw[if_pos h3]at hb;unfold fieldsB at hFB;rw[if_neg h1,if_neg h2,if_pos h3]at hFB;unfold publishB at hFB
  split at hFB
  ·cases hFB
  rename_i hA
  split at hFB
  ·cases hFB
  rename_i hB
  have hid:p.qos=0→p.id=0:=fun h0=>by
   have hB':decide (p.id=0)=decide (p.qos=0):=Classical.not_not.1 hB;rw[decide_eq_true h0]at hB';exact of_decide_eq_true hB'
  have htop:okText p.topic=true:=by
   split at hFB
   ·rename_i h5
    have e:p.topic=⟨#[]⟩:=by
     have h0:=h5.2;cases ht:p.topic with
     | mk a =>
      rw[ht]at h0
      have:a=#[]:=Array.eq_empty_of_size_eq_zero h0
      rw[this]
    rw[e];decide +kernel
   ·unfold nameB at hFB
    simp only[Bool.and_eq_true]at hFB;exact hFB.1
  have hfl:flagsN p=bitN p.retain 1+2 * p.qos+bitN p.dup 8:=if_pos h3;rw[hfl];refine (publ_back hw hl (by have:=ri.qos;omega) hF.id hid htop).trans (congrArg (fun x:Pk=>(x,(⟨[],0,false⟩:Ts))) (Eq.trans ?_ (congrArg canon hb.symm)));unfold canon;simp only[zk,e3]
 rw[if_neg h3,if_neg h3];rw[if_neg h3]at hb;unfold fieldsB at hFB;rw[if_neg h1,if_neg h2,if_neg h3]at hFB
 by_cases h4:p.kind=4∨p.kind=5∨p.kind=6∨p.kind=7
 ·rw[if_pos h4,if_pos h4]
  rw[if_pos h4]at hb hFB;simp only[Bool.and_eq_true]at hFB;rw[(tk2 hF.id _ _).1,(tk2 hF.id _ _).2];refine (short_back hw hl hF.code (code4 hF.code (by omega) hFB.2) { zk p.kind with id:=p.id } false).trans (congrArg (fun x:Pk=>(x,(⟨[],0,false⟩:Ts))) (Eq.trans ?_ (congrArg canon hb.symm)));unfold canon;simp only[zk,e3]
 rw[if_neg h4,if_neg h4];rw[if_neg h4]at hb hFB
 by_cases h8:p.kind=8∨p.kind=10
 ·rw[if_pos h8,if_pos h8]
  rw[if_pos h8]at hb hFB;simp only[Bool.and_eq_true]at hFB;have hfs:=hFB.2;unfold filtersB at hfs;simp only[Bool.and_eq_true,List.all_eq_true]at hfs
  have hff:∀ f∈p.filters,okText f.text=true∧f.opt < 256∧(p.kind≠8→f.opt=0):=fun f hf=>by
   obtain ⟨a1,a2⟩:=hfs.2.2 f hf;refine ⟨?_,hF.opt f hf,fun hk=>?_⟩
   ·unfold filterB at a1
    simp only[Bool.and_eq_true]at a1;exact a1.1
   ·unfold optB at a2
    rw[if_pos (show p.kind=10 by omega)]at a2;exact of_decide_eq_true a2
  rw[List.append_assoc,(tk2 hF.id _ _).1,(tk2 hF.id _ _).2,(tkS hw.p hn hl.p4 _ _).1,(tkS hw.p hn hl.p4 _ _).2,filt_back p.kind p.filters _ (filt_le p.kind p.filters) hff];refine congrArg (fun x:Pk=>(x,(⟨[],0,false⟩:Ts))) (Eq.trans ?_ (congrArg canon hb.symm));unfold canon;simp only[zk,e3]
 rw[if_neg h8,if_neg h8];rw[if_neg h8]at hb hFB
 by_cases h9:p.kind=9∨p.kind=11
 ·rw[if_pos h9,if_pos h9]
  rw[if_pos h9]at hb;rw[List.append_assoc,(tk2 hF.id _ _).1,(tk2 hF.id _ _).2,(tkS hw.p hn hl.p4 _ _).1,(tkS hw.p hn hl.p4 _ _).2,(tkR _ _).2];refine congrArg (fun x:Pk=>(x,(⟨[],0,false⟩:Ts))) (Eq.trans ?_ (congrArg canon hb.symm));unfold canon;simp only[zk,e3]
 rw[if_neg h9,if_neg h9];rw[if_neg h9]at hb hFB
 by_cases h14:p.kind=14∨p.kind=15
 ·rw[if_pos h14,if_pos h14]
  rw[if_pos h14]at hb
  have hc4:v=4→p.code=0:=fun h5=>by
   by_cases h:p.kind=14
   ·rw[if_pos h]at hFB
    exact code4 hF.code (by omega) hFB h5
   ·exfalso
    unfold rightP existsB at hr;simp only[Bool.and_eq_true,Bool.or_eq_true,decide_eq_true_eq]at hr
    have:=hr.1
    omega
  refine (short_back hw hl hF.code hc4 (zk p.kind) false).trans (congrArg (fun x:Pk=>(x,(⟨[],0,false⟩:Ts))) (Eq.trans ?_ (congrArg canon hb.symm)));unfold canon;simp only[zk,e3]
 rw[if_neg h14,if_neg h14];rw[if_neg h14]at hb;refine congrArg (fun x:Pk=>(x,(⟨[],0,false⟩:Ts))) (Eq.trans ?_ (congrArg canon hb.symm));unfold canon;simp only[zk,e3]
theorem form_4 {v:Int} {l:List UInt8} {hd:Hd} {K:Pk × Ts} (he:headB l=hd) (h0:headE l=0∧(l.length:Int)=hd.head+(hd.rest:Int)∧headOk v hd=true) (hK:fieldsK v hd.kind hd.flags ⟨l.drop hd.head.toNat,0,false⟩=K) (h:((!K.2.ok)||(!decide (K.2.l.length=0)))=false):formOk v l=true∧formP v l=K.1:=by
 have h1:(K.2.ok&&decide (K.2.l.length=0))=true:=by
  revert h;cases K.2.ok<;>simp
 have h2:formOk v l=true:=by
  unfold formOk formS;rw[he,hK,h1,decide_eq_true h0.1,decide_eq_true h0.2.1,h0.2.2]
  rfl
 refine ⟨h2,?_⟩;unfold formP;rw[if_pos h2];unfold formS;rw[he,hK]
theorem or9 {v:Int} (h:(!(decide (v=4)||decide (v=5)))=false):v=4∨v=5:=by
 by_cases h4:v=4
 ·exact .inl h4
 ·by_cases h5:v=5
  ·exact .inr h5
  ·rw[decide_eq_false h4,decide_eq_false h5]at h;cases h
theorem dec_ok {v:Int} {l:List UInt8} (h:(!(decide (v=4)||decide (v=5)))=false) (h2:(!formOk v l)=false) (h3:(!rightP v (formP v l))=false):decE v l=0∧decP v l=formP v l:=by
 have h1:v=4∨v=5:=or9 h;have e:decE v l=0:=(if_pos h1).trans ((if_pos (by simpa using h2)).trans (if_pos (by simpa using h3)));exact ⟨e,if_pos e⟩
theorem hok_2 {v:Int} {h:Hd} (h9:(((!(decide (v=4)||decide (v=5)))||decide (h.kind=0))||(decide (v=4)&&decide (h.kind=15)))=false):headOk v h=if h.kind=3 then true else if h.kind=6∨h.kind=8∨h.kind=10 then decide (h.flags=2) else decide (h.flags=0):=by
 unfold headOk;rw[if_neg (by rw[← Bool.or_assoc,h9];decide)]
theorem flags_lt16 {v:Int} {p:Pk} (ri:Ri v p):flagsN p < 16:=by
 have:=ri.qos
 unfold flagsN bitN
 split
 ·split<;>split<;>omega
 ·split<;>omega
theorem headOk_enc {v:Int} {p:Pk} (hr:rightP v p=true) (h r:Nat):headOk v ⟨p.kind,flagsN p,h,r⟩=true:=by
 have ri:=right_ri hr
 have hE:existsB v p.kind=true:=by
  unfold rightP at hr;simp only[Bool.and_eq_true]at hr;exact hr.1
 have hv:=ri.hv;unfold existsB at hE;simp only[Bool.and_eq_true,Bool.or_eq_true,decide_eq_true_eq]at hE
 have h9:(((!(decide (v=4)||decide (v=5)))||decide (p.kind=0))||(decide (v=4)&&decide (p.kind=15)))=false:=by
  have e0:decide (p.kind=0)=false:=decide_eq_false (by omega);rw[e0];rcases hv with rfl|rfl
  ·have e1:decide (p.kind=15)=false:=decide_eq_false (by omega)
   rw[e1];rfl
  ·rfl
 refine (hok_2 (h:=⟨p.kind,flagsN p,h,r⟩) h9).trans ?_;show (if p.kind=3 then true else if p.kind=6∨p.kind=8∨p.kind=10 then decide (flagsN p=2) else decide (flagsN p=0))=true;unfold flagsN
 by_cases h3:p.kind=3
 ·rw[if_pos h3]
 ·rw[if_neg h3,if_neg h3]
  by_cases h6:p.kind=6∨p.kind=8∨p.kind=10
  ·rw[if_pos h6,if_pos h6];rfl
  ·rw[if_neg h6,if_neg h6];rfl
theorem enc_hd {v:Int} {p:Pk} (hr:rightP v p=true) (hF:Fit p):headE (encL v p)=0∧headB (encL v p)=⟨p.kind,flagsN p,((1+(varL (restN v p)).length:Nat):Int),restN v p⟩∧(encL v p).drop (1+(varL (restN v p)).length)=behB v p∧(encL v p).length=1+(varL (restN v p)).length+restN v p:=by
 have ri:=right_ri hr;have hfl:=flags_lt16 ri;have hk1:=ri.k1;have hk2:=ri.k2;have hlen:=behB_len v p hF.wf
 have e:encL v p=byteOf ((16 * p.kind.toNat+flagsN p:Nat):Int) :: (varL (restN v p)++behB v p):=by
  unfold encL;rw[if_pos hr];unfold encB;rw[hlen]
  rfl
 have hS:headS (encL v p)=(restN v p,behB v p,0):=by
  rw[e];unfold headS;have t1:leftL 1 (byteOf ((16 * p.kind.toNat+flagsN p:Nat):Int) :: (varL (restN v p)++behB v p)) 0=varL (restN v p)++behB v p:=by unfold leftL;rw[if_pos rfl,if_pos ⟨by decide,by simp only[List.length_cons];omega⟩];rfl
  have t2:leftE 1 (byteOf ((16 * p.kind.toNat+flagsN p:Nat):Int) :: (varL (restN v p)++behB v p)) 0=0:=by unfold leftE;rw[if_pos rfl,if_pos ⟨by decide,by simp only[List.length_cons];omega⟩]
  rw[t1,t2];exact rv_varL _ _ ri.rest
 have hT:taken 1 (encL v p) 0=[byteOf ((16 * p.kind.toNat+flagsN p:Nat):Int)]:=by rw[e];unfold taken;rw[if_pos ⟨rfl,by decide,by simp only[List.length_cons];omega⟩];rfl
 have hn:num [byteOf ((16 * p.kind.toNat+flagsN p:Nat):Int)]=16 * p.kind.toNat+flagsN p:=by
  have:=byteOf_n9 (n:=16 * p.kind.toNat+flagsN p) (by omega)
  simp only[num,List.foldl_cons,List.foldl_nil];omega
 have hL:(encL v p).length=1+(varL (restN v p)).length+restN v p:=by
  rw[e,List.length_cons,List.length_append,hlen];omega
 obtain ⟨h1,h2⟩:=head_full (encL v p);refine ⟨h1.trans (by rw[hS]),?_,?_,hL⟩
 ·rw[h2 (by rw[hS]),hS,hT,hn,hL]
  have a1:(((16 * p.kind.toNat+flagsN p) / 16:Nat):Int)=p.kind:=by omega
  have a2:(16 * p.kind.toNat+flagsN p) % 16=flagsN p:=by omega
  have a3:((1+(varL (restN v p)).length+restN v p:Nat):Int) - ((behB v p).length:Int)=((1+(varL (restN v p)).length:Nat):Int):=by rw[hlen];omega
  rw[a1,a2,a3]
 ·rw[e,Nat.add_comm 1 (varL (restN v p)).length,List.drop_succ_cons,List.drop_left]
theorem dec_back {v:Int} {p:Pk} (hr:rightP v p=true) (hF:Fit p) (hl:Lays9 v p) (hs:canon p=p):decE v (encL v p)=0∧decP v (encL v p)=p:=by
 obtain ⟨h1,h2,h3,h4⟩:=enc_hd hr hF;have hK:=beh_back hr hF hl;rw[hs]at hK;have hF4:=form_4 (v:=v) (K:=(p,⟨[],0,false⟩)) h2 ⟨h1,by rw[h4];show _=(((1+(varL (restN v p)).length:Nat):Int)+(restN v p:Int));omega,headOk_enc hr _ _⟩ (by show fieldsK v p.kind (flagsN p) ⟨(encL v p).drop (1+(varL (restN v p)).length),0,false⟩=_;rw[h3];exact hK) rfl;have hv:=(right_ri hr).hv;have hD:=dec_ok (v:=v) (l:=encL v p) (by rcases hv with rfl|rfl<;>rfl) (by rw[hF4.1];rfl) (by rw[hF4.2];show (!rightP v p)=false;rw[hr];rfl);exact ⟨hD.1,hD.2.trans hF4.2⟩
structure Fine (m:Nat) (p:Pk):Prop where
 client:p.client.size≤m
 willTopic:p.willTopic.size≤m
 willLoad:p.willLoad.size≤m
 user:p.user.size≤m
 pass:p.pass.size≤m
 topic:p.topic.size≤m
 load:p.load.size≤m
 codes:p.codes.length≤m
 nf:p.filters.length≤10
 np:p.props.length≤10
 nw:p.willProps.length≤10
 tf:∀ f∈p.filters,f.opt < 256∧f.text.size≤60
 tp:∀ x∈p.props,x.id < 256∧x.n < 4294967296∧x.a.size≤32∧x.b.size≤32
 tw:∀ x∈p.willProps,x.id < 256∧x.n < 4294967296∧x.a.size≤32∧x.b.size≤32
 qos:p.qos < 256
 id:p.id < 65536
 keep:p.keep < 65536
 wq:p.willQoS < 256
 code:p.code < 256
theorem Fine.fit {m:Nat} {p:Pk} (h:Fine m p) (hm:m≤60):Fit p:=by
 have h1:=h.client;have h2:=h.willTopic;have h3:=h.willLoad;have h4:=h.user;have h5:=h.pass;have h6:=h.topic;have h7:=h.load;have h8:=h.codes;have h9:=h.nf;have h10:=h.np;have h11:=h.nw
 exact ⟨⟨by omega,by omega,by omega,by omega⟩,⟨fun x hx=>⟨(h.tw x hx).1,(h.tw x hx).2.1,by have:=(h.tw x hx).2.2.1;omega,by have:=(h.tw x hx).2.2.2;omega⟩,fun x hx=>⟨(h.tp x hx).1,(h.tp x hx).2.1,by have:=(h.tp x hx).2.2.1;omega,by have:=(h.tp x hx).2.2.2;omega⟩⟩,
  ⟨by omega,by omega,by omega,by omega,by omega,by omega,by omega,by omega,by omega,by omega,by omega,fun f hf=>by have:=(h.tf f hf).2;omega,fun x hx=>⟨by have:=(h.tp x hx).2.2.1;omega,by have:=(h.tp x hx).2.2.2;omega⟩,fun x hx=>⟨by have:=(h.tw x hx).2.2.1;omega,by have:=(h.tw x hx).2.2.2;omega⟩⟩,h.qos,h.id,h.keep,h.wq,h.code,fun f hf=>(h.tf f hf).1⟩
structure Fx9 (v:Int) (q:Pk):Prop where
 fine:Fine 40 q
 right:rightP v q=true
 lays:Lays9 v q
 can:canon q=q
theorem Fx9.fit {v:Int} {q:Pk} (h:Fx9 v q):Fit q:=h.fine.fit (by decide)
end Go.Proofs.YtohmcfmcbibbcaaGreatDoor
