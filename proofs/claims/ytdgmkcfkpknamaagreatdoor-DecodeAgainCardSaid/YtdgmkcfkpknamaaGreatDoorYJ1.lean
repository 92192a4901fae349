import Derived.Test.YtdgmkcfkpknamaaGreatDoorYH9
import Derived.Test.YtdgmkcfkpknamaaGreatDoorYI6
namespace Go.Proofs.YtdgmkcfkpknamaaGreatDoor
open Go.RowKit
set_option linter.unusedVariables false
set_option linter.unusedSimpArgs false
set_option maxRecDepth 100000
theorem byteOf_n9 {n:Nat} (h:n < 256):(byteOf (n:Int)).toNat=n:=by
 have:=byteOf_val (n:=(n:Int)) (by omega) (by omega)
 omega
theorem taken_at (l r:List UInt8):taken (l.length:Int) (l++r) 0=l∧leftL (l.length:Int) (l++r) 0=r∧leftE (l.length:Int) (l++r) 0=0:=by
 have h1:(l.length:Int)≤((l++r).length:Int):=by rw[List.length_append];omega
 refine ⟨?_,?_,?_⟩
 ·unfold taken;rw[if_pos ⟨rfl,by omega,h1⟩];simp
 ·unfold leftL;rw[if_pos rfl,if_pos ⟨by omega,h1⟩];simp
 ·unfold leftE;rw[if_pos rfl,if_pos ⟨by omega,h1⟩]
theorem tk1 {n:Nat} (h:n < 256) (t:List UInt8) (b:Bool):Ts.num 1 ⟨by1 n++t,0,b⟩=n∧Ts.rd 1 ⟨by1 n++t,0,b⟩=⟨t,0,b⟩:=by
 obtain ⟨h1,h2,h3⟩:=taken_at (by1 n) t;rw[show ((by1 n).length:Int)=1 from rfl]at h1 h2 h3;unfold Ts.num Ts.rd;rw[h1,h2,h3];refine ⟨?_,rfl⟩;simp[by1,num,byteOf_n9 h]
theorem tk2 {n:Nat} (h:n < 65536) (t:List UInt8) (b:Bool):Ts.num 2 ⟨by2 n++t,0,b⟩=n∧Ts.rd 2 ⟨by2 n++t,0,b⟩=⟨t,0,b⟩:=by
 obtain ⟨h1,h2,h3⟩:=taken_at (by2 n) t;rw[show ((by2 n).length:Int)=2 from rfl]at h1 h2 h3;unfold Ts.num Ts.rd;rw[h1,h2,h3];refine ⟨?_,rfl⟩;simp only[by2,num,List.foldl_cons,List.foldl_nil];rw[show (n:Int) / 256=((n / 256:Nat):Int) by omega,show (n:Int) % 256=((n % 256:Nat):Int) by omega,byteOf_n9 (by omega),byteOf_n9 (by omega)];omega
theorem tkB9 {s:ByteArray} (h:s.size≤65535) (t:List UInt8) (b:Bool):Ts.bin ⟨binBy s++t,0,b⟩=s∧Ts.rdB ⟨binBy s++t,0,b⟩=⟨t,0,b⟩:=by
 obtain ⟨h1,h2,h3⟩:=bin_back s t h;unfold Ts.bin Ts.rdB;rw[h1,h2,h3];exact ⟨by simp,rfl⟩
theorem tkT {s:ByteArray} (h:s.size≤65535) (ho:okText s=true) (t:List UInt8) (b:Bool):Ts.rdT ⟨binBy s++t,0,b⟩=⟨t,0,b⟩:=by
 obtain ⟨h1,h2⟩:=tkB9 h t b;unfold Ts.rdT;rw[h1,h2,ho];simp[Ts.need]
theorem tkS {v:Int} {L:List Pr} {n:Nat} (hw:∀ p∈L,p.wf') (h:v=4∨lenGo L 0=some n) (h4:v=4→L=[]) (t:List UInt8) (b:Bool):Ts.sec v ⟨secB v L++t,0,b⟩=sortL L∧Ts.rdS v ⟨secB v L++t,0,b⟩=⟨t,0,b⟩:=by
 unfold Ts.sec Ts.rdS secB
 by_cases hv:v=4
 ·rw[if_pos hv,if_pos hv,if_pos hv,h4 hv]
  exact ⟨by unfold sortL;simp,rfl⟩
 ·rw[if_neg hv,if_neg hv,if_neg hv]
  obtain ⟨h1,h2,h3,h5,h6⟩:=take_put [] t hw (h.resolve_left hv);rw[h1,List.nil_append];rw[h2,h3,h5];exact ⟨rfl,by simp[Ts.need]⟩
theorem tkR (t:List UInt8) (b:Bool):Ts.rest ⟨t,0,b⟩=⟨t.toArray⟩∧Ts.rdR ⟨t,0,b⟩=⟨[],0,b⟩:=⟨rfl,rfl⟩
def canon (p:Pk):Pk:={ p with props:=sortL p.props,willProps:=sortL p.willProps }
structure Lays9 (v:Int) (x:Pk):Prop where
 p:v=4∨∃ n,lenGo x.props 0=some n
 w:v=4∨∃ n,lenGo x.willProps 0=some n
 p4:v=4→x.props=[]
 w4:v=4→x.willProps=[]
theorem short_back {v:Int} {p:Pk} (hw:Wf p) (hl:Lays9 v p) (hc:p.code < 256) (h4:v=4→p.code=0) (q:Pk) (b:Bool):shortK v { q with code:=0,props:=[] } ⟨shortB v p,0,b⟩=({ q with code:=p.code,props:=sortL p.props },⟨[],0,b⟩):=by
 unfold shortB
 by_cases h0:v=4∨(p.code=0∧p.props.length=0)
 ·rw[if_pos h0]
  have e1:p.code=0:=h0.elim h4 (·.1);have e2:p.props=[]:=h0.elim hl.p4 (fun h=>List.eq_nil_of_length_eq_zero h.2);have e3:sortL ([]:List Pr)=[]:=by unfold sortL;simp
  rw[e1,e2,e3];exact if_pos (.inr rfl)
 ·rw[if_neg h0]
  have hv:v≠4:=fun h=>h0 (.inl h)
  obtain ⟨n,hn⟩:=hl.p.resolve_left hv
  by_cases h1:p.props.length=0
  ·rw[if_pos h1]
   have e2:p.props=[]:=List.eq_nil_of_length_eq_zero h1;obtain ⟨k1,k2⟩:=tk1 hc [] b;rw[List.append_nil]at k1 k2;unfold shortK;rw[if_neg (by rintro (h|h);exact hv h;cases h),k2,if_pos (show (Ts.mk [] 0 b).l.length=0 from rfl),k1,e2];have e3:sortL ([]:List Pr)=[]:=by unfold sortL;simp
   rw[e3]
  ·rw[if_neg h1]
   obtain ⟨k1,k2⟩:=tk1 hc (secB v p.props) b;obtain ⟨s1,s2⟩:=tkS hw.p (.inr hn) hl.p4 [] b;rw[List.append_nil]at s1 s2
   have hne:(secB v p.props).length≠0:=by
    unfold secB;rw[if_neg hv]
    have:=(take_put [] [] hw.p hn).1
    rw[List.append_nil]at this;rw[this];have h9:=(lenGo_some p.props 0 n hw.p hn (by omega)).1;cases hp:p.props with
    | nil=>rw[hp]at h1;exact absurd rfl h1
    | cons x l =>
     have:=lay_ne (hw.p x (by rw[hp];exact List.mem_cons_self ..)) (h9 x (by rw[hp];exact List.mem_cons_self ..))
     intro h8;have h7:=List.eq_nil_of_length_eq_zero h8;simp only[List.nil_append,List.append_nil,List.append_eq_nil_iff]at h7;have h6:=h7.2;rw[layAll]at h6;simp at h6;exact this h6.1
   unfold shortK;rw[if_neg (by rintro (h|h);exact hv h;cases h),k2,if_neg hne,k1,s1,s2]
theorem filt_back (k:Int):∀ (L:List Fi) (n:Nat),L.length≤n→(∀ f∈L,okText f.text=true∧f.opt < 256∧(k≠8→f.opt=0))→filtK k n ⟨filtB k L,0,false⟩=(L,⟨[],0,false⟩)
 | [],n,_,_=>filtK_stop (by rintro ⟨_,h⟩;exact absurd h (by show ¬ 0 < ([]:List UInt8).length;decide)) n
 | f :: L,0,h,_=>by simp at h
 | f :: L,n+1,h,hf=>by
  obtain ⟨h1,h2,h3⟩:=hf f (List.mem_cons_self ..);have ih:=filt_back k L n (by simpa using h) (fun g hg=>hf g (List.mem_cons_of_mem _ hg));have e0:filtB k (f :: L)=binBy f.text++((if k=8 then by1 f.opt else [])++filtB k L):=by rw[filtB,List.append_assoc]
  rw[e0,filtK_go ⟨rfl,by show 0 < (binBy f.text++_).length;rw[List.length_append,binBy_len];omega⟩,tkT (okText_size h1) h1,(tkB9 (okText_size h1) _ _).1]
  by_cases hk:k=8
  ·rw[if_pos hk,if_pos hk,if_pos hk,(tk1 h2 _ _).1,(tk1 h2 _ _).2,ih]
  ·rw[if_neg hk,if_neg hk,if_neg hk,List.nil_append,ih,← h3 hk]
theorem flag_back:∀ (r d:Bool) (q:Fin 4),((bitN r 1+2 * q.val+bitN d 8) / 2 &&& 3)=q.val∧(!decide ((bitN r 1+2 * q.val+bitN d 8) &&& 8=0))=d∧(!decide ((bitN r 1+2 * q.val+bitN d 8) &&& 1=0))=r:=by decide +kernel
theorem publ_back {v:Int} {p:Pk} (hw:Wf p) (hl:Lays9 v p) (hq:p.qos < 4) (hid:p.id < 65536) (hi:p.qos=0→p.id=0) (ht:okText p.topic=true):publK v (bitN p.retain 1+2 * p.qos+bitN p.dup 8) ⟨publB v p,0,false⟩=({ zk 3 with dup:=p.dup,qos:=p.qos,retain:=p.retain,topic:=p.topic,id:=p.id,props:=sortL p.props,load:=p.load },⟨[],0,false⟩):=by
 obtain ⟨b1,b2,b3⟩:=flag_back p.retain p.dup ⟨p.qos,hq⟩;simp only at b1 b2 b3;obtain ⟨n,hn⟩:∃ n,v=4∨lenGo p.props 0=some n:=hl.p.elim (fun h=>⟨0,.inl h⟩) (fun ⟨n,h⟩=>⟨n,.inr h⟩);have e0:publB v p=binBy p.topic++((if p.qos=0 then [] else by2 p.id)++(secB v p.props++p.load.data.toList)):=by unfold publB;simp only[List.append_assoc]
 unfold publK;dsimp only;rw[b1,b2,b3,e0,tkT (okText_size ht) ht,(tkB9 (okText_size ht) _ _).1]
 by_cases h0:p.qos=0
 ·rw[if_pos h0,if_pos h0,if_pos h0,List.nil_append,(tkS hw.p hn hl.p4 _ _).1,(tkS hw.p hn hl.p4 _ _).2,(tkR _ _).1,(tkR _ _).2,hi h0]
 ·rw[if_neg h0,if_neg h0,if_neg h0,(tk2 hid _ _).1,(tk2 hid _ _).2,(tkS hw.p hn hl.p4 _ _).1,(tkS hw.p hn hl.p4 _ _).2,(tkR _ _).1,(tkR _ _).2]
theorem connack_back {v:Int} {p:Pk} (hw:Wf p) (hl:Lays9 v p) (hc:p.code < 256):connackK v ⟨by1 (bitN p.present 1)++by1 p.code++secB v p.props,0,false⟩=({ zk 2 with present:=p.present,code:=p.code,props:=sortL p.props },⟨[],0,false⟩):=by
 obtain ⟨n,hn⟩:∃ n,v=4∨lenGo p.props 0=some n:=hl.p.elim (fun h=>⟨0,.inl h⟩) (fun ⟨n,h⟩=>⟨n,.inr h⟩);have hb:bitN p.present 1 < 256:=by unfold bitN;split<;>omega
 have h1:(decide (bitN p.present 1≤1))=true∧decide (bitN p.present 1=1)=p.present:=by unfold bitN;cases p.present<;>decide
 unfold connackK;dsimp only;rw[List.append_assoc,(tk1 hb _ _).1,(tk1 hb _ _).2,h1.1,h1.2];have e:Ts.need ⟨by1 p.code++secB v p.props,0,false⟩ true=⟨by1 p.code++secB v p.props,0,false⟩:=rfl;have hs:=tkS hw.p hn hl.p4 [] false;rw[List.append_nil]at hs;rw[e,(tk1 hc _ _).1,(tk1 hc _ _).2,hs.1,hs.2]
theorem will_bits:∀ (c w r ps u:Bool) (q:Fin 4),let f:=bitN c 2+bitN w 4+8 * q.val+bitN r 32+bitN ps 64+bitN u 128
  f < 256∧(!decide (f &&& 2=0))=c∧(!decide (f &&& 4=0))=w∧(f / 8 &&& 3)=q.val∧(!decide (f &&& 32=0))=r∧(!decide (f &&& 64=0))=ps∧(!decide (f &&& 128=0))=u∧decide (f &&& 1=0)=true∧((w=false∧q.val=0∧r=false)→decide (f &&& 56=0)=true):=by decide +kernel
theorem will_back {v:Int} {p:Pk} (f:Nat) (hw:Wf p) (hl:Lays9 v p) (h4:(!decide (f &&& 4=0))=p.hasWill) (h8:(f / 8 &&& 3)=p.willQoS) (h32:(!decide (f &&& 32=0))=p.willRetain) (h56:p.hasWill=false→decide (f &&& 56=0)=true) (ht:p.hasWill=true→okText p.willTopic=true) (hd:p.willLoad.size≤65535) (h0:p.hasWill=false→p.willQoS=0∧p.willRetain=false∧p.willProps=[]∧p.willTopic=⟨#[]⟩∧p.willLoad=⟨#[]⟩) (q:Pk) (t:List UInt8) :
  willK v f { q with hasWill:=false,willQoS:=0,willRetain:=false,willProps:=[],willTopic:=⟨#[]⟩,willLoad:=⟨#[]⟩ } ⟨(if p.hasWill=true then secB v p.willProps++binBy p.willTopic++binBy p.willLoad else [])++t,0,false⟩=({ q with hasWill:=p.hasWill,willQoS:=p.willQoS,willRetain:=p.willRetain,willProps:=sortL p.willProps,willTopic:=p.willTopic,willLoad:=p.willLoad },⟨t,0,false⟩):=by
 obtain ⟨n,hn⟩:∃ n,v=4∨lenGo p.willProps 0=some n:=hl.w.elim (fun h=>⟨0,.inl h⟩) (fun ⟨n,h⟩=>⟨n,.inr h⟩);unfold willK;rw[h4,h8,h32];rcases Bool.eq_false_or_eq_true p.hasWill with h|h
 ·rw[if_pos h,if_pos h]
  simp only[List.append_assoc];rw[(tkS hw.w hn hl.w4 _ _).1,(tkS hw.w hn hl.w4 _ _).2,(tkB9 (okText_size (ht h)) _ _).1,tkT (okText_size (ht h)) (ht h),(tkB9 hd _ _).1,(tkB9 hd _ _).2]
 ·obtain ⟨z1,z2,z3,z4,z5⟩:=h0 h
  have e3:sortL ([]:List Pr)=[]:=by unfold sortL;simp
  rw[if_neg (by rw[h];decide),if_neg (by rw[h];decide),h56 h,z1,z2,z3,z4,z5,e3,List.nil_append]
  rfl
theorem user_back {p:Pk} (f:Nat) (h:(!decide (f &&& 128=0))=p.hasUser) (ht:okText p.user=true) (h0:p.hasUser=false→p.user=⟨#[]⟩) (q:Pk) (t:List UInt8):userK f { q with hasUser:=false,user:=⟨#[]⟩ } ⟨(if p.hasUser=true then binBy p.user else [])++t,0,false⟩=({ q with hasUser:=p.hasUser,user:=p.user },⟨t,0,false⟩):=by
 unfold userK;rw[h];rcases Bool.eq_false_or_eq_true p.hasUser with h1|h1
 ·rw[if_pos h1,if_pos h1,(tkB9 (okText_size ht) _ _).1,tkT (okText_size ht) ht]
 ·rw[if_neg (by rw[h1];decide),if_neg (by rw[h1];decide),List.nil_append,h0 h1]
theorem pass_back {p:Pk} (f:Nat) (h:(!decide (f &&& 64=0))=p.hasPass) (ht:p.pass.size≤65535) (h0:p.hasPass=false→p.pass=⟨#[]⟩) (q:Pk) (t:List UInt8):passK f { q with hasPass:=false,pass:=⟨#[]⟩ } ⟨(if p.hasPass=true then binBy p.pass else [])++t,0,false⟩=({ q with hasPass:=p.hasPass,pass:=p.pass },⟨t,0,false⟩):=by
 unfold passK;rw[h];rcases Bool.eq_false_or_eq_true p.hasPass with h1|h1
 ·rw[if_pos h1,if_pos h1,(tkB9 ht _ _).1,(tkB9 ht _ _).2]
 ·rw[if_neg (by rw[h1];decide),if_neg (by rw[h1];decide),List.nil_append,h0 h1]
structure Con9 (p:Pk):Prop where
 keep:p.keep < 65536
 wq:p.willQoS < 4
 client:okText p.client=true
 wt:p.hasWill=true→okText p.willTopic=true
 wl:p.willLoad.size≤65535
 user:okText p.user=true
 pass:p.pass.size≤65535
 w0:p.hasWill=false→p.willQoS=0∧p.willRetain=false∧p.willProps=[]∧p.willTopic=⟨#[]⟩∧p.willLoad=⟨#[]⟩
 u0:p.hasUser=false→p.user=⟨#[]⟩
 p0:p.hasPass=false→p.pass=⟨#[]⟩
theorem need_true (s:Ts):s.need true=s:=by cases s;simp[Ts.need]
theorem conn_back {v:Int} {p:Pk} (hv:v=4∨v=5) (hw:Wf p) (hl:Lays9 v p) (hc:Con9 p):connK v ⟨connB v p,0,false⟩=({ zk 1 with clean:=p.clean,keep:=p.keep,client:=p.client,hasWill:=p.hasWill,hasUser:=p.hasUser,hasPass:=p.hasPass,willQoS:=p.willQoS,willRetain:=p.willRetain,willProps:=sortL p.willProps,willTopic:=p.willTopic,willLoad:=p.willLoad,user:=p.user,pass:=p.pass,props:=sortL p.props },⟨[],0,false⟩):=by
 obtain ⟨n,hn⟩:∃ n,v=4∨lenGo p.props 0=some n:=hl.p.elim (fun h=>⟨0,.inl h⟩) (fun ⟨n,h⟩=>⟨n,.inr h⟩);have hb:=will_bits p.clean p.hasWill p.willRetain p.hasPass p.hasUser ⟨p.willQoS,hc.wq⟩;simp only at hb;have hfl:conFlN p=bitN p.clean 2+bitN p.hasWill 4+8 * p.willQoS+bitN p.willRetain 32+bitN p.hasPass 64+bitN p.hasUser 128:=rfl;rw[← hfl]at hb;obtain ⟨hf,b2,b4,b8,b32,b64,b128,b1,b56⟩:=hb;have e0:connB v p=binBy mqtt++(by1 v.toNat++(by1 (conFlN p)++(by2 p.keep++(secB v p.props++(binBy p.client++((if p.hasWill=true then secB v p.willProps++binBy p.willTopic++binBy p.willLoad else [])++((if p.hasUser=true then binBy p.user else [])++((if p.hasPass=true then binBy p.pass else [])++[])))))))):=by unfold connB;simp only[List.append_assoc,List.append_nil]
 have hvn:v.toNat < 256∧((v.toNat:Nat):Int)=v:=by omega
 have c1:conF v ⟨connB v p,0,false⟩=⟨by1 (conFlN p)++(by2 p.keep++(secB v p.props++(binBy p.client++((if p.hasWill=true then secB v p.willProps++binBy p.willTopic++binBy p.willLoad else [])++((if p.hasUser=true then binBy p.user else [])++((if p.hasPass=true then binBy p.pass else [])++[])))))),0,false⟩:=by
  unfold conF;rw[e0,(tkB9 (s:=mqtt) (by decide) _ _).1,(tkB9 (s:=mqtt) (by decide) _ _).2,decide_eq_true rfl,need_true,(tk1 hvn.1 _ _).1,(tk1 hvn.1 _ _).2,decide_eq_true hvn.2,need_true]
 have h1:connK v ⟨connB v p,0,false⟩=passK (conFlN p) (userK (conFlN p) (willK v (conFlN p) { zk 1 with clean:=p.clean,keep:=p.keep,client:=p.client,props:=sortL p.props } ⟨(if p.hasWill=true then secB v p.willProps++binBy p.willTopic++binBy p.willLoad else [])++((if p.hasUser=true then binBy p.user else [])++((if p.hasPass=true then binBy p.pass else [])++[])),0,false⟩).1 (willK v (conFlN p) { zk 1 with clean:=p.clean,keep:=p.keep,client:=p.client,props:=sortL p.props } ⟨(if p.hasWill=true then secB v p.willProps++binBy p.willTopic++binBy p.willLoad else [])++((if p.hasUser=true then binBy p.user else [])++((if p.hasPass=true then binBy p.pass else [])++[])),0,false⟩).2).1 (userK (conFlN p) (willK v (conFlN p) { zk 1 with clean:=p.clean,keep:=p.keep,client:=p.client,props:=sortL p.props } ⟨(if p.hasWill=true then secB v p.willProps++binBy p.willTopic++binBy p.willLoad else [])++((if p.hasUser=true then binBy p.user else [])++((if p.hasPass=true then binBy p.pass else [])++[])),0,false⟩).1 (willK v (conFlN p) { zk 1 with clean:=p.clean,keep:=p.keep,client:=p.client,props:=sortL p.props } ⟨(if p.hasWill=true then secB v p.willProps++binBy p.willTopic++binBy p.willLoad else [])++((if p.hasUser=true then binBy p.user else [])++((if p.hasPass=true then binBy p.pass else [])++[])),0,false⟩).2).2:=by
  unfold connK;dsimp only;rw[c1,(tk1 hf _ _).1,(tk1 hf _ _).2,b1,need_true,(tk2 hc.keep _ _).1,(tk2 hc.keep _ _).2,(tkS hw.p hn hl.p4 _ _).1,(tkS hw.p hn hl.p4 _ _).2,(tkB9 (okText_size hc.client) _ _).1,tkT (okText_size hc.client) hc.client,b2]
 have hW:=will_back (conFlN p) hw hl b4 b8 b32 (fun h=>b56 ⟨h,(hc.w0 h).1,(hc.w0 h).2.1⟩) hc.wt hc.wl hc.w0 { zk 1 with clean:=p.clean,keep:=p.keep,client:=p.client,props:=sortL p.props } ((if p.hasUser=true then binBy p.user else [])++((if p.hasPass=true then binBy p.pass else [])++[]));have hU:=user_back (p:=p) (conFlN p) b128 hc.user hc.u0 { zk 1 with clean:=p.clean,keep:=p.keep,client:=p.client,props:=sortL p.props,hasWill:=p.hasWill,willQoS:=p.willQoS,willRetain:=p.willRetain,willProps:=sortL p.willProps,willTopic:=p.willTopic,willLoad:=p.willLoad } ((if p.hasPass=true then binBy p.pass else [])++[]);have hP:=pass_back (p:=p) (conFlN p) b64 hc.pass hc.p0 { zk 1 with clean:=p.clean,keep:=p.keep,client:=p.client,props:=sortL p.props,hasWill:=p.hasWill,willQoS:=p.willQoS,willRetain:=p.willRetain,willProps:=sortL p.willProps,willTopic:=p.willTopic,willLoad:=p.willLoad,hasUser:=p.hasUser,user:=p.user } [];exact h1.trans ((congrArg (fun w:Pk × Ts=>passK (conFlN p) (userK (conFlN p) w.1 w.2).1 (userK (conFlN p) w.1 w.2).2) hW).trans ((congrArg (fun u:Pk × Ts=>passK (conFlN p) u.1 u.2) hU).trans hP))
theorem bare1 {p:Pk} (h1:p.kind=1) (hb0:p=bareP p):p={ zk 1 with clean:=p.clean,keep:=p.keep,client:=p.client,hasWill:=p.hasWill,hasUser:=p.hasUser,hasPass:=p.hasPass,willQoS:=p.willQoS,willRetain:=p.willRetain,willProps:=p.willProps,willTopic:=p.willTopic,willLoad:=p.willLoad,user:=p.user,pass:=p.pass,props:=p.props }∧(p.hasWill=false→p.willQoS=0∧p.willRetain=false∧p.willProps=[]∧p.willTopic=⟨#[]⟩∧p.willLoad=⟨#[]⟩)∧(p.hasUser=false→p.user=⟨#[]⟩)∧(p.hasPass=false→p.pass=⟨#[]⟩):=by
 have hb:=hb0;unfold bareP at hb;rw[if_pos h1]at hb;have q1:p.willQoS=if p.hasWill=true then p.willQoS else 0:=congrArg Pk.willQoS hb
 have q2:p.willRetain=if p.hasWill=true then p.willRetain else false:=congrArg Pk.willRetain hb
 have q3:p.willProps=if p.hasWill=true then p.willProps else []:=congrArg Pk.willProps hb
 have q4:p.willTopic=if p.hasWill=true then p.willTopic else ⟨#[]⟩:=congrArg Pk.willTopic hb
 have q5:p.willLoad=if p.hasWill=true then p.willLoad else ⟨#[]⟩:=congrArg Pk.willLoad hb
 have q6:p.user=if p.hasUser=true then p.user else ⟨#[]⟩:=congrArg Pk.user hb
 have q7:p.pass=if p.hasPass=true then p.pass else ⟨#[]⟩:=congrArg Pk.pass hb
 refine ⟨?_,fun h=>?_,fun h=>?_,fun h=>?_⟩
 ·rw[← q1,← q2,← q3,← q4,← q5,← q6,← q7]at hb
  exact hb
 ·have hn:¬ p.hasWill=true:=by rw[h];decide
  exact ⟨q1.trans (if_neg hn),q2.trans (if_neg hn),q3.trans (if_neg hn),q4.trans (if_neg hn),q5.trans (if_neg hn)⟩
 ·exact q6.trans (if_neg (by rw[h];decide))
 ·exact q7.trans (if_neg (by rw[h];decide))
theorem ke4_zero:∀ c:Fin 256,(ke 4 4 c.val=true→c.val=0)∧(ke 4 5 c.val=true→c.val=0)∧(ke 4 6 c.val=true→c.val=0)∧(ke 4 7 c.val=true→c.val=0)∧(ke 4 14 c.val=true→c.val=0):=by decide +kernel
theorem code4 {v k:Int} {c:Nat} (hc:c < 256) (hk:k=4∨k=5∨k=6∨k=7∨k=14) (h:ke v k c=true):v=4→c=0:=by
 rintro rfl
 have:=ke4_zero ⟨c,hc⟩
 rcases hk with rfl|rfl|rfl|rfl|rfl
 ·exact this.1 h
 ·exact this.2.1 h
 ·exact this.2.2.1 h
 ·exact this.2.2.2.1 h
 ·exact this.2.2.2.2 h
theorem filt_le (k:Int):∀ L:List Fi,L.length≤(filtB k L).length
 | []=>Nat.le_refl _
 | f :: L=>by
  have:=filt_le k L
  rw[filtB,List.length_append,List.length_append,binBy_len];simp only[List.length_cons];omega
theorem beh_back {v:Int} {p:Pk} (hr:rightP v p=true) (hF:Fit p) (hl:Lays9 v p):fieldsK v p.kind (flagsN p) ⟨behB v p,0,false⟩=(canon p,⟨[],0,false⟩):=by
 have ri:=right_ri hr;have hw:=hF.wf;have hb:=ri.bare
 have hFB:fieldsB v p=true:=by
  unfold rightP at hr;simp only[Bool.and_eq_true]at hr;exact hr.2.2.2.1
 obtain ⟨n,hn⟩:∃ n,v=4∨lenGo p.props 0=some n:=hl.p.elim (fun h=>⟨0,.inl h⟩) (fun ⟨n,h⟩=>⟨n,.inr h⟩);unfold fieldsK behB
 by_cases h1:p.kind=1
 ·rw[if_pos h1,if_pos h1]
  obtain ⟨hb1,w0,u0,p0⟩:=bare1 h1 hb;unfold fieldsB at hFB;rw[if_pos h1]at hFB;unfold connectB at hFB;simp only[Bool.and_eq_true,decide_eq_true_eq]at hFB;obtain ⟨q1,q2,q3,q4,-⟩:=hFB
  have hwt:p.hasWill=true→okText p.willTopic=true:=fun h=>by
   rw[h]at q4;simp only[Bool.not_true,Bool.false_or,willOkB,Bool.and_eq_true]at q4;have q5:=q4.2.1;unfold nameB at q5;simp only[Bool.and_eq_true]at q5;exact q5.1
  exact (conn_back ri.hv hw hl ⟨hF.keep,by have:=ri.wq;omega,q1,hwt,ri.willLoad,q2,q3,w0,u0,p0⟩).trans (congrArg (fun x:Pk=>(x,(⟨[],0,false⟩:Ts))) ((rfl:_=canon { zk 1 with clean:=p.clean,keep:=p.keep,client:=p.client,hasWill:=p.hasWill,hasUser:=p.hasUser,hasPass:=p.hasPass,willQoS:=p.willQoS,willRetain:=p.willRetain,willProps:=p.willProps,willTopic:=p.willTopic,willLoad:=p.willLoad,user:=p.user,pass:=p.pass,props:=p.props }).trans (congrArg canon hb1.symm)))
 rw[if_neg h1,if_neg h1];have e3:sortL ([]:List Pr)=[]:=by unfold sortL;simp
 unfold bareP at hb;rw[if_neg h1]at hb
 by_cases h2:p.kind=2
 ·rw[if_pos h2,if_pos h2]
  rw[if_pos h2]at hb;refine (connack_back hw hl hF.code).trans (congrArg (fun x:Pk=>(x,(⟨[],0,false⟩:Ts))) (Eq.trans ?_ (congrArg canon hb.symm)));unfold canon;simp only[zk,e3]
 rw[if_neg h2,if_neg h2];rw[if_neg h2]at hb
 by_cases h3:p.kind=3
 ·rw[if_pos h3,if_pos h3]
  rw[if_pos h3]at hb;unfold fieldsB at hFB;rw[if_neg h1,if_neg h2,if_pos h3]at hFB;unfold publishB at hFB
  split at hFB
  ·cases hFB
  rename_i hA
  split at hFB
  ·cases hFB
  rename_i hB
  have hid:p.qos=0→p.id=0:=fun h0=>by
   have hB':decide (p.id=0)=decide (p.qos=0):=Classical.not_not.1 hB;rw[decide_eq_true h0]at hB';exact of_decide_eq_true hB'
  have htop:okText p.topic=true:=by
   split at hFB
   ·rename_i h5
    have e:p.topic=⟨#[]⟩:=by
     have h0:=h5.2;cases ht:p.topic with
     | mk a =>
      rw[ht]at h0
      have:a=#[]:=Array.eq_empty_of_size_eq_zero h0
      rw[this]
    rw[e];decide +kernel
   ·unfold nameB at hFB
    simp only[Bool.and_eq_true]at hFB;exact hFB.1
  have hfl:flagsN p=bitN p.retain 1+2 * p.qos+bitN p.dup 8:=if_pos h3;rw[hfl];refine (publ_back hw hl (by have:=ri.qos;omega) hF.id hid htop).trans (congrArg (fun x:Pk=>(x,(⟨[],0,false⟩:Ts))) (Eq.trans ?_ (congrArg canon hb.symm)));unfold canon;simp only[zk,e3]
 rw[if_neg h3,if_neg h3];rw[if_neg h3]at hb;unfold fieldsB at hFB;rw[if_neg h1,if_neg h2,if_neg h3]at hFB
 by_cases h4:p.kind=4∨p.kind=5∨p.kind=6∨p.kind=7
 ·rw[if_pos h4,if_pos h4]
  rw[if_pos h4]at hb hFB;simp only[Bool.and_eq_true]at hFB;rw[(tk2 hF.id _ _).1,(tk2 hF.id _ _).2];refine (short_back hw hl hF.code (code4 hF.code (by omega) hFB.2) { zk p.kind with id:=p.id } false).trans (congrArg (fun x:Pk=>(x,(⟨[],0,false⟩:Ts))) (Eq.trans ?_ (congrArg canon hb.symm)));unfold canon;simp only[zk,e3]
 rw[if_neg h4,if_neg h4];rw[if_neg h4]at hb hFB
 by_cases h8:p.kind=8∨p.kind=10
 ·rw[if_pos h8,if_pos h8]
  rw[if_pos h8]at hb hFB;simp only[Bool.and_eq_true]at hFB;have hfs:=hFB.2;unfold filtersB at hfs;simp only[Bool.and_eq_true,List.all_eq_true]at hfs
  have hff:∀ f∈p.filters,okText f.text=true∧f.opt < 256∧(p.kind≠8→f.opt=0):=fun f hf=>by
   obtain ⟨a1,a2⟩:=hfs.2.2 f hf;refine ⟨?_,hF.opt f hf,fun hk=>?_⟩
   ·unfold filterB at a1
    simp only[Bool.and_eq_true]at a1;exact a1.1
   ·unfold optB at a2
    rw[if_pos (show p.kind=10 by omega)]at a2;exact of_decide_eq_true a2
  rw[List.append_assoc,(tk2 hF.id _ _).1,(tk2 hF.id _ _).2,(tkS hw.p hn hl.p4 _ _).1,(tkS hw.p hn hl.p4 _ _).2,filt_back p.kind p.filters _ (filt_le p.kind p.filters) hff];refine congrArg (fun x:Pk=>(x,(⟨[],0,false⟩:Ts))) (Eq.trans ?_ (congrArg canon hb.symm));unfold canon;simp only[zk,e3]
 rw[if_neg h8,if_neg h8];rw[if_neg h8]at hb hFB
 by_cases h9:p.kind=9∨p.kind=11
 ·rw[if_pos h9,if_pos h9]
  rw[if_pos h9]at hb;rw[List.append_assoc,(tk2 hF.id _ _).1,(tk2 hF.id _ _).2,(tkS hw.p hn hl.p4 _ _).1,(tkS hw.p hn hl.p4 _ _).2,(tkR _ _).2];refine congrArg (fun x:Pk=>(x,(⟨[],0,false⟩:Ts))) (Eq.trans ?_ (congrArg canon hb.symm));unfold canon;simp only[zk,e3]
 rw[if_neg h9,if_neg h9];rw[if_neg h9]at hb hFB
 by_cases h14:p.kind=14∨p.kind=15
 ·rw[if_pos h14,if_pos h14]
  rw[if_pos h14]at hb
  have hc4:v=4→p.code=0:=fun h5=>by
   by_cases h:p.kind=14
   ·rw[if_pos h]at hFB
    exact code4 hF.code (by omega) hFB h5
   ·exfalso
    unfold rightP existsB at hr;simp only[Bool.and_eq_true,Bool.or_eq_true,decide_eq_true_eq]at hr
    have:=hr.1
    omega
  refine (short_back hw hl hF.code hc4 (zk p.kind) false).trans (congrArg (fun x:Pk=>(x,(⟨[],0,false⟩:Ts))) (Eq.trans ?_ (congrArg canon hb.symm)));unfold canon;simp only[zk,e3]
 rw[if_neg h14,if_neg h14];rw[if_neg h14]at hb;refine congrArg (fun x:Pk=>(x,(⟨[],0,false⟩:Ts))) (Eq.trans ?_ (congrArg canon hb.symm));unfold canon;simp only[zk,e3]
theorem form_4 {v:Int} {l:List UInt8} {hd:Hd} {K:Pk × Ts} (he:headB l=hd) (h0:headE l=0∧(l.length:Int)=hd.head+(hd.rest:Int)∧headOk v hd=true) (hK:fieldsK v hd.kind hd.flags ⟨l.drop hd.head.toNat,0,false⟩=K) (h:((!K.2.ok)||(!decide (K.2.l.length=0)))=false):formOk v l=true∧formP v l=K.1:=by
 have h1:(K.2.ok&&decide (K.2.l.length=0))=true:=by
  revert h;cases K.2.ok<;>simp
 have h2:formOk v l=true:=by
  unfold formOk formS;rw[he,hK,h1,decide_eq_true h0.1,decide_eq_true h0.2.1,h0.2.2]
  rfl
 refine ⟨h2,?_⟩;unfold formP;rw[if_pos h2];unfold formS;rw[he,hK]
theorem or9 {v:Int} (h:(!(decide (v=4)||decide (v=5)))=false):v=4∨v=5:=by
 by_cases h4:v=4
 ·exact .inl h4
 ·by_cases h5:v=5
  ·exact .inr h5
  ·rw[decide_eq_false h4,decide_eq_false h5]at h;cases h
theorem dec_ok {v:Int} {l:List UInt8} (h:(!(decide (v=4)||decide (v=5)))=false) (h2:(!formOk v l)=false) (h3:(!rightP v (formP v l))=false):decE v l=0∧decP v l=formP v l:=by
 have h1:v=4∨v=5:=or9 h;have e:decE v l=0:=(if_pos h1).trans ((if_pos (by simpa using h2)).trans (if_pos (by simpa using h3)));exact ⟨e,if_pos e⟩
theorem hok_2 {v:Int} {h:Hd} (h9:(((!(decide (v=4)||decide (v=5)))||decide (h.kind=0))||(decide (v=4)&&decide (h.kind=15)))=false):headOk v h=if h.kind=3 then true else if h.kind=6∨h.kind=8∨h.kind=10 then decide (h.flags=2) else decide (h.flags=0):=by
 unfold headOk;rw[if_neg (by rw[← Bool.or_assoc,h9];decide)]
theorem flags_lt16 {v:Int} {p:Pk} (ri:Ri v p):flagsN p < 16:=by
 have:=ri.qos
 unfold flagsN bitN
 split
 ·split<;>split<;>omega
 ·split<;>omega
theorem headOk_enc {v:Int} {p:Pk} (hr:rightP v p=true) (h r:Nat):headOk v ⟨p.kind,flagsN p,h,r⟩=true:=by
 have ri:=right_ri hr
 have hE:existsB v p.kind=true:=by
  unfold rightP at hr;simp only[Bool.and_eq_true]at hr;exact hr.1
 have hv:=ri.hv;unfold existsB at hE;simp only[Bool.and_eq_true,Bool.or_eq_true,decide_eq_true_eq]at hE
 have h9:(((!(decide (v=4)||decide (v=5)))||decide (p.kind=0))||(decide (v=4)&&decide (p.kind=15)))=false:=by
  have e0:decide (p.kind=0)=false:=decide_eq_false (by omega);rw[e0];rcases hv with rfl|rfl
  ·have e1:decide (p.kind=15)=false:=decide_eq_false (by omega)
   rw[e1];rfl
  ·rfl
 refine (hok_2 (h:=⟨p.kind,flagsN p,h,r⟩) h9).trans ?_;show (if p.kind=3 then true else if p.kind=6∨p.kind=8∨p.kind=10 then decide (flagsN p=2) else decide (flagsN p=0))=true;unfold flagsN
 by_cases h3:p.kind=3
 ·rw[if_pos h3]
 ·rw[if_neg h3,if_neg h3]
  by_cases h6:p.kind=6∨p.kind=8∨p.kind=10
  ·rw[if_pos h6,if_pos h6];rfl
  ·rw[if_neg h6,if_neg h6];rfl
theorem enc_hd {v:Int} {p:Pk} (hr:rightP v p=true) (hF:Fit p):headE (encL v p)=0∧headB (encL v p)=⟨p.kind,flagsN p,((1+(varL (restN v p)).length:Nat):Int),restN v p⟩∧(encL v p).drop (1+(varL (restN v p)).length)=behB v p∧(encL v p).length=1+(varL (restN v p)).length+restN v p:=by
 have ri:=right_ri hr;have hfl:=flags_lt16 ri;have hk1:=ri.k1;have hk2:=ri.k2;have hlen:=behB_len v p hF.wf
 have e:encL v p=byteOf ((16 * p.kind.toNat+flagsN p:Nat):Int) :: (varL (restN v p)++behB v p):=by
  unfold encL;rw[if_pos hr];unfold encB;rw[hlen]
  rfl
 have hS:headS (encL v p)=(restN v p,behB v p,0):=by
  rw[e];unfold headS;have t1:leftL 1 (byteOf ((16 * p.kind.toNat+flagsN p:Nat):Int) :: (varL (restN v p)++behB v p)) 0=varL (restN v p)++behB v p:=by unfold leftL;rw[if_pos rfl,if_pos ⟨by decide,by simp only[List.length_cons];omega⟩];rfl
  have t2:leftE 1 (byteOf ((16 * p.kind.toNat+flagsN p:Nat):Int) :: (varL (restN v p)++behB v p)) 0=0:=by unfold leftE;rw[if_pos rfl,if_pos ⟨by decide,by simp only[List.length_cons];omega⟩]
  rw[t1,t2];exact rv_varL _ _ ri.rest
 have hT:taken 1 (encL v p) 0=[byteOf ((16 * p.kind.toNat+flagsN p:Nat):Int)]:=by rw[e];unfold taken;rw[if_pos ⟨rfl,by decide,by simp only[List.length_cons];omega⟩];rfl
 have hn:num [byteOf ((16 * p.kind.toNat+flagsN p:Nat):Int)]=16 * p.kind.toNat+flagsN p:=by
  have:=byteOf_n9 (n:=16 * p.kind.toNat+flagsN p) (by omega)
  simp only[num,List.foldl_cons,List.foldl_nil];omega
 have hL:(encL v p).length=1+(varL (restN v p)).length+restN v p:=by
  rw[e,List.length_cons,List.length_append,hlen];omega
 obtain ⟨h1,h2⟩:=head_full (encL v p);refine ⟨h1.trans (by rw[hS]),?_,?_,hL⟩
 ·rw[h2 (by rw[hS]),hS,hT,hn,hL]
  have a1:(((16 * p.kind.toNat+flagsN p) / 16:Nat):Int)=p.kind:=by omega
  have a2:(16 * p.kind.toNat+flagsN p) % 16=flagsN p:=by omega
  have a3:((1+(varL (restN v p)).length+restN v p:Nat):Int) - ((behB v p).length:Int)=((1+(varL (restN v p)).length:Nat):Int):=by rw[hlen];omega
  rw[a1,a2,a3]
 ·rw[e,Nat.add_comm 1 (varL (restN v p)).length,List.drop_succ_cons,List.drop_left]
theorem dec_back {v:Int} {p:Pk} (hr:rightP v p=true) (hF:Fit p) (hl:Lays9 v p) (hs:canon p=p):decE v (encL v p)=0∧decP v (encL v p)=p:=by
 obtain ⟨h1,h2,h3,h4⟩:=enc_hd hr hF;have hK:=beh_back hr hF hl;rw[hs]at hK;have hF4:=form_4 (v:=v) (K:=(p,⟨[],0,false⟩)) h2 ⟨h1,by rw[h4];show _=(((1+(varL (restN v p)).length:Nat):Int)+(restN v p:Int));omega,headOk_enc hr _ _⟩ (by show fieldsK v p.kind (flagsN p) ⟨(encL v p).drop (1+(varL (restN v p)).length),0,false⟩=_;rw[h3];exact hK) rfl;have hv:=(right_ri hr).hv;have hD:=dec_ok (v:=v) (l:=encL v p) (by rcases hv with rfl|rfl<;>rfl) (by rw[hF4.1];rfl) (by rw[hF4.2];show (!rightP v p)=false;rw[hr];rfl);exact ⟨hD.1,hD.2.trans hF4.2⟩
structure Fine (m:Nat) (p:Pk):Prop where
 client:p.client.size≤m
 willTopic:p.willTopic.size≤m
 willLoad:p.willLoad.size≤m
 user:p.user.size≤m
 pass:p.pass.size≤m
 topic:p.topic.size≤m
 load:p.load.size≤m
 codes:p.codes.length≤m
 nf:p.filters.length≤10
 np:p.props.length≤10
 nw:p.willProps.length≤10
 tf:∀ f∈p.filters,f.opt < 256∧f.text.size≤60
 tp:∀ x∈p.props,x.id < 256∧x.n < 4294967296∧x.a.size≤32∧x.b.size≤32
 tw:∀ x∈p.willProps,x.id < 256∧x.n < 4294967296∧x.a.size≤32∧x.b.size≤32
 qos:p.qos < 256
 id:p.id < 65536
 keep:p.keep < 65536
 wq:p.willQoS < 256
 code:p.code < 256
theorem Fine.fit {m:Nat} {p:Pk} (h:Fine m p) (hm:m≤60):Fit p:=by
 have h1:=h.client;have h2:=h.willTopic;have h3:=h.willLoad;have h4:=h.user;have h5:=h.pass;have h6:=h.topic;have h7:=h.load;have h8:=h.codes;have h9:=h.nf;have h10:=h.np;have h11:=h.nw
 exact ⟨⟨by omega,by omega,by omega,by omega⟩,⟨fun x hx=>⟨(h.tw x hx).1,(h.tw x hx).2.1,by have:=(h.tw x hx).2.2.1;omega,by have:=(h.tw x hx).2.2.2;omega⟩,fun x hx=>⟨(h.tp x hx).1,(h.tp x hx).2.1,by have:=(h.tp x hx).2.2.1;omega,by have:=(h.tp x hx).2.2.2;omega⟩⟩,
  ⟨by omega,by omega,by omega,by omega,by omega,by omega,by omega,by omega,by omega,by omega,by omega,fun f hf=>by have:=(h.tf f hf).2;omega,fun x hx=>⟨by have:=(h.tp x hx).2.2.1;omega,by have:=(h.tp x hx).2.2.2;omega⟩,fun x hx=>⟨by have:=(h.tw x hx).2.2.1;omega,by have:=(h.tw x hx).2.2.2;omega⟩⟩,h.qos,h.id,h.keep,h.wq,h.code,fun f hf=>(h.tf f hf).1⟩
structure Fx9 (v:Int) (q:Pk):Prop where
 fine:Fine 40 q
 right:rightP v q=true
 lays:Lays9 v q
 can:canon q=q
theorem Fx9.fit {v:Int} {q:Pk} (h:Fx9 v q):Fit q:=h.fine.fit (by decide)
theorem dec_cut {v:Int} {p:Pk} (hX:Fx9 v p) {k:Nat} (hk:k < (encL v p).length):decE v ((encL v p).take k)=3:=by
 obtain ⟨a1,a2,a3,a4⟩:=enc_hd hX.right hX.fit;refine decE_3 (right_ri hX.right).hv fun h=>?_
 obtain ⟨h1,h2⟩:=form_len h;obtain ⟨b1,b2⟩:=head_app (l:=(encL v p).take k) (m:=(encL v p).drop k) (by rw[h1];decide);have b3:=b2 h1;rw[List.take_append_drop,a2]at b3;rw[← b3,List.length_take]at h2;dsimp only at h2;omega
theorem dec_more {v:Int} {p:Pk} (hX:Fx9 v p) (x:UInt8):decE v (encL v p++[x])=3:=by
 obtain ⟨a1,a2,a3,a4⟩:=enc_hd hX.right hX.fit;refine decE_3 (right_ri hX.right).hv fun h=>?_
 obtain ⟨h1,h2⟩:=form_len h;obtain ⟨b1,b2⟩:=head_app (l:=encL v p) (m:=[x]) (by rw[a1];decide);rw[b2 a1,a2,List.length_append]at h2;dsimp only at h2;simp only[List.length_cons,List.length_nil]at h2;omega
theorem enc_kind {v:Int} {p:Pk} (hX:Fx9 v p):∃ c t,encL v p=c :: t∧((c.toNat / 16:Nat):Int)=p.kind:=by
 obtain ⟨a1,a2,a3,a4⟩:=enc_hd hX.right hX.fit;cases hl:encL v p with
 | nil=>rw[hl]at a1;exact absurd a1 (by decide +kernel)
 | cons c t =>
  rw[hl]at a1 a2;have h9:=(head_full (c :: t)).2 (by rw[← (head_full (c :: t)).1];exact a1);rw[a2,taken_cons]at h9;have h8:=congrArg Hd.kind h9;dsimp only at h8;have e:num [c]=c.toNat:=by simp[num]
  rw[e]at h8;exact ⟨c,t,rfl,h8.symm⟩
structure Eats (n:Nat) (S S':Ts):Prop where
 le:S'.l.length≤S.l.length
 ok:S'.ok=true→S.l.length≤100000→S.ok=true∧S.l.length=n+S'.l.length
theorem ok_iff9 {S:Ts}:S.ok=true↔S.b=false∧S.e=0:=by unfold Ts.ok;simp
theorem Eats.and {n m:Nat} {S S' S2:Ts} (h:Eats n S S') (k:Eats m S' S2):Eats (n+m) S S2 :=
 ⟨Nat.le_trans k.le h.le,fun o b=>by
  obtain ⟨k1,k2⟩:=k.ok o (Nat.le_trans h.le b);obtain ⟨h1,h2⟩:=h.ok k1 b;exact ⟨h1,by omega⟩⟩
theorem eats_no (S:Ts):Eats 0 S S:=⟨Nat.le_refl _,fun o _=>⟨o,by omega⟩⟩
theorem eats_need (S:Ts) (x:Bool):Eats 0 S (S.need x):=⟨Nat.le_refl _,fun o _=>by
 rw[ok_iff9]at o ⊢;unfold Ts.need at o ⊢;simp only[Bool.or_eq_false_iff]at o;exact ⟨⟨o.1.1,o.2⟩,by simp⟩⟩
theorem eats_rd (S:Ts) (n:Nat):Eats n S (S.rd n):=by
 refine ⟨leftL_le _ _ _,fun o b=>?_⟩;rw[ok_iff9]at o ⊢;obtain ⟨o1,o2⟩:=o;unfold Ts.rd at o1 o2 ⊢;dsimp only at o1 o2 ⊢;unfold leftE at o2;unfold leftL
 by_cases he:S.e=0
 ·rw[if_pos he]at o2 ⊢
  by_cases hc:0≤(n:Int)∧(n:Int)≤S.l.length
  ·rw[if_pos hc,List.length_drop]
   exact ⟨⟨o1,he⟩,by omega⟩
  ·rw[if_neg hc]at o2
   omega
 ·rw[if_neg he]at o2
  exact absurd o2 he
theorem eats_rdB (S:Ts):Eats (2+S.bin.size) S S.rdB:=by
 have h1:=eats_rd S 2;have h2:=eats_rd (S.rd 2) (Go.Proofs.YtdgmkcfkpknamaaGreatDoor.num (taken 2 S.l S.e));refine ⟨(h1.and h2).le,fun o b=>?_⟩;obtain ⟨k1,k2⟩:=h2.ok o (Nat.le_trans h1.le b);obtain ⟨k3,k4⟩:=h1.ok k1 b;refine ⟨k3,?_⟩
 have e:S.bin.size=Go.Proofs.YtdgmkcfkpknamaaGreatDoor.num (taken 2 S.l S.e):=by
  have k5:leftE 2 S.l S.e=0:=(ok_iff9.1 k1).2;have k6:(leftL 2 S.l S.e).length=Go.Proofs.YtdgmkcfkpknamaaGreatDoor.num (taken 2 S.l S.e)+((S.rd 2).rd (Go.Proofs.YtdgmkcfkpknamaaGreatDoor.num (taken 2 S.l S.e))).l.length:=k2;unfold Ts.bin;rw[ba_size,show binTaken S.l S.e=taken (Go.Proofs.YtdgmkcfkpknamaaGreatDoor.num (taken 2 S.l S.e)) (leftL 2 S.l S.e) (leftE 2 S.l S.e) from rfl];generalize Go.Proofs.YtdgmkcfkpknamaaGreatDoor.num (taken 2 S.l S.e)=m at *;unfold taken;rw[if_pos ⟨k5,by omega,by omega⟩,List.length_take];omega
 have k4':S.l.length=2+(S.rd 2).l.length:=k4;have k2':(S.rd 2).l.length=Go.Proofs.YtdgmkcfkpknamaaGreatDoor.num (taken 2 S.l S.e)+S.rdB.l.length:=k2;rw[e];omega
theorem eats_rdT (S:Ts):Eats (2+S.bin.size) S S.rdT:=(eats_rdB S).and (eats_need _ _)
structure Sk (v:Int) (L:List Pr):Prop where
 n:v=4∨∃ n,lenGo L 0=some n
 z:v=4→L=[]
 s:sortL L=L
theorem sk_nil (v:Int):Sk v []:=⟨.inr ⟨0,rfl⟩,fun _=>rfl,sortL_of List.Pairwise.nil⟩
theorem take_sk {s:List UInt8} (hl:s.length≤100000) (h:(takeR s 0).2=true):(∃ n,lenGo (takeR s 0).1 0=some n)∧sortL (takeR s 0).1=(takeR s 0).1:=by
 obtain ⟨_,_,he⟩:=take_canon hl h
 by_cases hk:(eachL (takeSec s 0)).2=true
 case neg =>
  unfold takeR at h;rw[if_pos he,if_neg hk]at h;cases h
 have hR:takeR s 0=(sortL (eachL (takeSec s 0)).1,true):=by unfold takeR;rw[if_pos he,if_pos hk]
 obtain ⟨e1,e2⟩:=each_inv (takeSec s 0).length (takeSec s 0) (Nat.le_refl _) hk;have hw:∀ p∈sortL (eachL (takeSec s 0)).1,p.wf':=fun p hp=>(e2 p (sortL_mem.1 hp)).2.wf'
 have hok:∀ p∈sortL (eachL (takeSec s 0)).1,p.ok=true:=fun p hp=>(e2 p (sortL_mem.1 hp)).1
 have hlen:(layAll (sortL (eachL (takeSec s 0)).1)).length=(takeSec s 0).length:=by
  rw[layAll_sort,← e1]
 obtain ⟨t1,t2⟩:=take_inv he;have h9:=lenGo_all (sortL (eachL (takeSec s 0)).1) 0 hw hok (by omega);rw[hR];exact ⟨⟨_,h9⟩,sortL_of (sortL_srt _)⟩
theorem takeErr_0 {l:List UInt8} {e:Int} (h:takeErr l e=0):e=0:=by
 rcases Classical.em (e=0) with q|q
 ·exact q
 ·exfalso
  have h1:leftE 1 l e=e:=if_neg q;revert h;unfold takeErr;rw[rv_stop (by rw[h1];exact q)];dsimp only;rw[h1,show leftE _ _ e=e from if_neg q];exact q
theorem rdS_sk {v:Int} {S:Ts} (o:(S.rdS v).ok=true) (b:S.l.length≤100000):Sk v (S.sec v)∧S.ok=true∧S.l.length=(secB v (S.sec v)).length+(S.rdS v).l.length:=by
 by_cases h4:v=4
 ·have e1:S.rdS v=S:=if_pos h4
  have e2:S.sec v=[]:=if_pos h4;have e3:secB v ([]:List Pr)=[]:=if_pos h4;rw[e1]at o;rw[e1,e2,e3];exact ⟨sk_nil v,o,by simp⟩
 ·have e1:S.rdS v=Ts.need ⟨takeLeft S.l S.e,takeErr S.l S.e,S.b⟩ (takeR S.l S.e).2:=if_neg h4
  have e2:S.sec v=(takeR S.l S.e).1:=if_neg h4;have e3:∀ L:List Pr,secB v L=putL [] L:=fun L=>if_neg h4
  rw[e1]at o;rw[ok_iff9]at o;unfold Ts.need at o;simp only[Bool.or_eq_false_iff,Bool.not_eq_eq_eq_not,Bool.not_false]at o;have e0:=takeErr_0 o.2;rw[e1,e2,e3];rw[e0]at o ⊢;obtain ⟨g1,g2,g3⟩:=take_canon b o.1.2;obtain ⟨g4,g5⟩:=take_sk b o.1.2;refine ⟨⟨.inr g4,fun h=>absurd h h4,g5⟩,ok_iff9.2 ⟨o.1.1,e0⟩,?_⟩;show _=_+(takeLeft S.l 0).length;omega
theorem eats_rdS (v:Int) (S:Ts):Eats (secB v (S.sec v)).length S (S.rdS v):=⟨rdS_le v S,fun o b=>(rdS_sk o b).2⟩
structure Dk (v k:Int) (p:Pk) (n:Nat):Prop where
 k:p.kind=k
 l:Lays9 v p
 c:canon p=p
 n:(behB v p).length≤n
theorem dk_of {v k:Int} {p:Pk} {n:Nat} (hk:p.kind=k) (h1:Sk v p.props) (h2:Sk v p.willProps) (hn:(behB v p).length≤n):Dk v k p n :=
 ⟨hk,⟨h1.n,h2.n,h1.z,h2.z⟩,by unfold canon;rw[h1.s,h2.s],hn⟩
theorem short_eats (v:Int) (p:Pk) (S:Ts) (hp:p.code=0∧p.props=[]):Eats 0 S S∧((shortK v p S).2.ok=true→(shortK v p S).2.l.length=0→S.l.length≤100000→S.ok=true∧(shortB v (shortK v p S).1).length≤S.l.length∧Sk v (shortK v p S).1.props∧(shortK v p S).1={ p with code:=(shortK v p S).1.code,props:=(shortK v p S).1.props }):=by
 refine ⟨eats_no S,?_⟩;unfold shortK
 split
 ·intro o l b
  refine ⟨o,?_,by dsimp only;rw[hp.2];exact sk_nil v,rfl⟩;unfold shortB;rw[if_pos (.inr ⟨hp.1,by rw[hp.2];rfl⟩)];exact Nat.zero_le _
 ·split
  ·intro o l b
   dsimp only at o l ⊢;obtain ⟨g1,g2⟩:=(eats_rd S 1).ok o b;refine ⟨g1,?_,by rw[hp.2];exact sk_nil v,rfl⟩;unfold shortB;dsimp only
   split
   ·exact Nat.zero_le _
   ·rw[if_pos (by rw[hp.2];rfl),b1_len];omega
  ·intro o l b
   dsimp only at o l ⊢;have b2:(S.rd 1).l.length≤100000:=Nat.le_trans (eats_rd S 1).le b;obtain ⟨g3,g4,g5⟩:=rdS_sk o b2;obtain ⟨g1,g2⟩:=(eats_rd S 1).ok g4 b;refine ⟨g1,?_,g3,rfl⟩;have g6:(S.rd ((1:Nat):Int))=S.rd 1:=rfl
   try rw[g6]at g2
   unfold shortB;dsimp only
   split
   ·exact Nat.zero_le _
   ·split
    ·rw[b1_len];omega
    ·rw[List.length_append,b1_len];omega
theorem filt_eats (k:Int):∀ (n:Nat) (S:Ts),S.l.length≤n→(filtK k n S).2.ok=true→(filtK k n S).2.l.length=0→S.l.length≤100000→S.ok=true∧(filtB k (filtK k n S).1).length=S.l.length
 | 0,S,hn,o,l,b=>⟨o,by show 0=_;omega⟩
 | n+1,S,hn,o,l,b=>by
  by_cases h:S.ok=true∧0 < S.l.length
  ·have hlt:=filtK_lt (k:=k) h
   rw[filtK_go h]at o l ⊢
   have hE:Eats (2+S.bin.size+(if k=8 then 1 else 0)) S (if k=8 then S.rdT.rd 1 else S.rdT):=by
    by_cases h8:k=8
    ·rw[if_pos h8,if_pos h8]
     exact (eats_rdT S).and (eats_rd _ 1)
    ·rw[if_neg h8,if_neg h8]
     exact eats_rdT S
   obtain ⟨g1,g2⟩:=filt_eats k n _ (by omega) o l (Nat.le_trans hE.le b);obtain ⟨g3,g4⟩:=hE.ok g1 b;refine ⟨g3,?_⟩;show (binBy S.bin++(if k=8 then by1 _ else [])++filtB k _).length=_;rw[List.length_append,List.length_append,g2,binBy_len,g4]
   split<;>simp[b1_len]<;>omega
  ·rw[filtK_stop h]at o l ⊢
   refine ⟨o,?_⟩;show 0=_;dsimp only at l;omega
theorem conn_dk {v:Int} {S:Ts} (o:(connK v S).2.ok=true) (l:(connK v S).2.l.length=0) (b:S.l.length≤100000):Dk v 1 (connK v S).1 S.l.length:=by
 revert o l;unfold connK;dsimp only;generalize hf:(conF v S).num 1=f;have c0:Eats (2+S.bin.size+0+1+0) S (conF v S):=((((eats_rdB S).and (eats_need _ _)).and (eats_rd _ 1)).and (eats_need _ _))
 have cb:(conF v S).ok=true→S.bin=mqtt:=fun o=>by
  have o2:=((eats_need _ _).ok o (Nat.le_trans (Nat.le_trans (rd_le _ _) (rdB_le S)) b)).1;have o3:=((eats_rd _ 1).ok o2 (Nat.le_trans (rdB_le S) b)).1;rw[ok_iff9]at o3;unfold Ts.need at o3;simp only[Bool.or_eq_false_iff,Bool.not_eq_eq_eq_not,Bool.not_false,decide_eq_true_eq]at o3;exact o3.1.2
 generalize hs2:conF v S=s2 at c0 cb ⊢;have c3:=(c0.and (eats_rd s2 1)).and (eats_need (s2.rd 1) (decide (f &&& 1=0)));have c3':=(eats_rd s2 1).and (eats_need (s2.rd 1) (decide (f &&& 1=0)));generalize hs3:(s2.rd 1).need (decide (f &&& 1=0))=s3 at c3 c3' ⊢;have c4:=c3.and (eats_rd s3 2);have c4':=c3'.and (eats_rd s3 2);have hB4:(s3.rd 2).l.length≤100000:=Nat.le_trans c4.le b;have r4:(s3.rd ((2:Nat):Int))=s3.rd 2:=rfl
 try rw[r4]at c4 c4'
 have c5:=c4.and (eats_rdS v (s3.rd 2));have c5':=c4'.and (eats_rdS v (s3.rd 2));have k5:=fun o=>(rdS_sk (v:=v) (S:=s3.rd 2) o hB4).1
 generalize (s3.rd 2).sec v=L at c5 c5' k5 ⊢;generalize (s3.rd 2).rdS v=s5 at c5 c5' k5 ⊢;have c6:=c5.and (eats_rdT s5);have c6':=c5'.and (eats_rdT s5);have c6k:=eats_rdT s5;have hB5:s5.l.length≤100000:=Nat.le_trans c5.le b;generalize s5.bin=cl at c6 c6' c6k ⊢;generalize s5.rdT=s6 at c6 c6' c6k ⊢;have hB6:s6.l.length≤100000:=Nat.le_trans c6.le b
 have W:∀ q:Pk,q.hasWill=false→q.willProps=[]→Eats ((if (willK v f q s6).1.hasWill=true then secB v (willK v f q s6).1.willProps++binBy (willK v f q s6).1.willTopic++binBy (willK v f q s6).1.willLoad else []).length) s6 (willK v f q s6).2∧((willK v f q s6).2.ok=true→Sk v (willK v f q s6).1.willProps):=fun q q1 q2=>by
  unfold willK;cases hb:(!decide (f &&& 4=0)) with
  | true =>
   rw[if_pos rfl];dsimp only;rw[if_pos rfl,List.length_append,List.length_append,binBy_len,binBy_len];refine ⟨((eats_rdS v s6).and (eats_rdT _)).and (eats_rdB _),fun o=>?_⟩;have b7:(s6.rdS v).l.length≤100000:=Nat.le_trans (rdS_le v s6) hB6;have b8:(s6.rdS v).rdT.l.length≤100000:=Nat.le_trans (eats_rdT _).le b7;exact (rdS_sk ((eats_rdT _).ok ((eats_rdB _).ok o b8).1 b7).1 hB6).1
  | false =>
   rw[if_neg Bool.false_ne_true];dsimp only;rw[if_neg Bool.false_ne_true];exact ⟨eats_need _ _,fun _=>by rw[q2];exact sk_nil v⟩
 have U:∀ (q:Pk) (s:Ts),Eats ((if (userK f q s).1.hasUser=true then binBy (userK f q s).1.user else []).length) s (userK f q s).2:=fun q s=>by
  unfold userK;cases hb:(!decide (f &&& 128=0)) with
  | true=>rw[if_pos rfl];dsimp only;rw[if_pos rfl,binBy_len];exact eats_rdT s
  | false=>rw[if_neg Bool.false_ne_true];dsimp only;rw[if_neg Bool.false_ne_true];exact eats_no s
 have P:∀ (q:Pk) (s:Ts),Eats ((if (passK f q s).1.hasPass=true then binBy (passK f q s).1.pass else []).length) s (passK f q s).2:=fun q s=>by
  unfold passK;cases hb:(!decide (f &&& 64=0)) with
  | true=>rw[if_pos rfl];dsimp only;rw[if_pos rfl,binBy_len];exact eats_rdB s
  | false=>rw[if_neg Bool.false_ne_true];dsimp only;rw[if_neg Bool.false_ne_true];exact eats_no s
 have UF:∀ (q:Pk) (s:Ts),(userK f q s).1={ q with hasUser:=(userK f q s).1.hasUser,user:=(userK f q s).1.user }:=fun q s=>by unfold userK;split<;>rfl
 have PF:∀ (q:Pk) (s:Ts),(passK f q s).1={ q with hasPass:=(passK f q s).1.hasPass,pass:=(passK f q s).1.pass }:=fun q s=>by unfold passK;split<;>rfl
 have WF:∀ (q:Pk) (s:Ts),(willK v f q s).1.kind=q.kind∧(willK v f q s).1.props=q.props∧(willK v f q s).1.client=q.client:=fun q s=>by unfold willK;split<;>exact ⟨rfl,rfl,rfl⟩
 obtain ⟨w1,w2⟩:=W { zk 1 with clean:=!decide (f &&& 2=0),keep:=s3.num 2,props:=L,client:=cl } rfl rfl;obtain ⟨w3,w4,w5⟩:=WF { zk 1 with clean:=!decide (f &&& 2=0),keep:=s3.num 2,props:=L,client:=cl } s6;generalize willK v f { zk 1 with clean:=!decide (f &&& 2=0),keep:=s3.num 2,props:=L,client:=cl } s6=w at w1 w2 w3 w4 w5 ⊢;have u1:=U w.1 w.2;have u2:=UF w.1 w.2;generalize userK f w.1 w.2=u at u1 u2 ⊢;have p1:=P u.1 u.2;have p2:=PF u.1 u.2;generalize passK f u.1 u.2=p at p1 p2 ⊢;intro o l;have z1:=c6.and (w1.and (u1.and p1));have bw:w.2.l.length≤100000:=Nat.le_trans w1.le hB6;have bu:u.2.l.length≤100000:=Nat.le_trans u1.le bw;have ou:=(p1.ok o bu).1;have ow:=(u1.ok ou bw).1;have o6:=(w1.ok ow hB6).1;have o5:=(c6k.ok o6 hB5).1;have o2:=(c5'.ok o5 (Nat.le_trans c0.le b)).1;obtain ⟨_,z2⟩:=z1.ok o b;have zb:S.bin.size=4:=by rw[cb o2];rfl
 have f1:p.1.kind=1:=by rw[p2,u2];exact w3
 have f2:p.1.props=L:=by rw[p2,u2];exact w4
 have f3:p.1.willProps=w.1.willProps:=by rw[p2,u2]
 have f4:p.1.client=cl:=by rw[p2,u2];exact w5
 have f5:p.1.hasWill=w.1.hasWill∧p.1.willTopic=w.1.willTopic∧p.1.willLoad=w.1.willLoad:=by rw[p2,u2];exact ⟨rfl,rfl,rfl⟩
 have f6:p.1.hasUser=u.1.hasUser∧p.1.user=u.1.user:=by rw[p2];exact ⟨rfl,rfl⟩
 refine dk_of f1 (by rw[f2];exact k5 o5) (by rw[f3];exact w2 ow) ?_;unfold behB;rw[if_pos f1];unfold connB;simp only[List.length_append,binBy_len,b1_len,b2_len,f2,f3,f4,f5.1,f5.2.1,f5.2.2,f6.1,f6.2];rw[show mqtt.size=4 from rfl]
 try simp only[List.length_append,binBy_len]at z2
 omega
theorem beh_f {v:Int} {p:Pk} (h1:¬ p.kind=1) (h2:¬ p.kind=2) (h3:¬ p.kind=3) (h4:¬ (p.kind=4∨p.kind=5∨p.kind=6∨p.kind=7)) (h8:p.kind=8∨p.kind=10):behB v p=by2 p.id++secB v p.props++filtB p.kind p.filters:=by rw[beh_kind,if_neg h1,if_neg h2,if_neg h3,if_neg h4,if_pos h8]
theorem beh_c {v:Int} {p:Pk} (h1:¬ p.kind=1) (h2:¬ p.kind=2) (h3:¬ p.kind=3) (h4:¬ (p.kind=4∨p.kind=5∨p.kind=6∨p.kind=7)) (h8:¬ (p.kind=8∨p.kind=10)) (h9:p.kind=9∨p.kind=11):behB v p=by2 p.id++secB v p.props++p.codes:=by rw[beh_kind,if_neg h1,if_neg h2,if_neg h3,if_neg h4,if_neg h8,if_pos h9]
theorem beh_z {v:Int} {p:Pk} (h1:¬ p.kind=1) (h2:¬ p.kind=2) (h3:¬ p.kind=3) (h4:¬ (p.kind=4∨p.kind=5∨p.kind=6∨p.kind=7)) (h8:¬ (p.kind=8∨p.kind=10)) (h9:¬ (p.kind=9∨p.kind=11)) (h14:¬ (p.kind=14∨p.kind=15)):behB v p=[]:=by rw[beh_kind,if_neg h1,if_neg h2,if_neg h3,if_neg h4,if_neg h8,if_neg h9,if_neg h14]
theorem fields_dk {v k:Int} {f:Nat} {S:Ts} (o:(fieldsK v k f S).2.ok=true) (l:(fieldsK v k f S).2.l.length=0) (b:S.l.length≤100000):Dk v k (fieldsK v k f S).1 S.l.length:=by
 have sk0:=sk_nil v;revert o l;unfold fieldsK
 by_cases k1:k=1
 ·subst k1
  rw[if_pos rfl];exact fun o l=>conn_dk o l b
 rw[if_neg k1]
 by_cases k2:k=2
 ·subst k2
  rw[if_pos rfl];unfold connackK;dsimp only;intro o l;have c1:=(eats_rd S 1).and (eats_need (S.rd 1) (decide (S.num 1≤1)));have r1:(S.rd ((1:Nat):Int))=S.rd 1:=rfl
  try rw[r1]at c1
  generalize (S.rd 1).need (decide (S.num 1≤1))=s1 at c1 o l ⊢;have c2:=c1.and (eats_rd s1 1);have r2:(s1.rd ((1:Nat):Int))=s1.rd 1:=rfl
  try rw[r2]at c2
  obtain ⟨g1,g2,g3⟩:=rdS_sk o (Nat.le_trans c2.le b);obtain ⟨_,g4⟩:=c2.ok g2 b;refine dk_of rfl g1 sk0 (show (by1 _++by1 _++secB v _).length≤_ from ?_);simp only[List.length_append,b1_len];omega
 rw[if_neg k2]
 by_cases k3:k=3
 ·subst k3
  rw[if_pos rfl];unfold publK;dsimp only;intro o l;have c1:=eats_rdT S;generalize hs1:S.rdT=s1 at c1 o l ⊢
  have c2:Eats (2+S.bin.size+(if (f / 2 &&& 3)=0 then 0 else 2)) S (if (f / 2 &&& 3)=0 then s1 else s1.rd 2):=by
   by_cases h:(f / 2 &&& 3)=0
   ·rw[if_pos h,if_pos h];exact c1
   ·rw[if_neg h,if_neg h];exact c1.and (eats_rd s1 2)
  generalize (if (f / 2 &&& 3)=0 then s1 else s1.rd 2)=s2 at c2 o l ⊢
  have o2:(s2.rdS v).ok=true:=by
   rw[ok_iff9]at o ⊢;exact o
  obtain ⟨g1,g2,g3⟩:=rdS_sk o2 (Nat.le_trans c2.le b);obtain ⟨_,g4⟩:=c2.ok g2 b;refine dk_of rfl g1 sk0 (show (publB v _).length≤_ from ?_);unfold publB Ts.rest;dsimp only;simp only[List.length_append,binBy_len]
  split at g4<;>rename_i hq
  ·rw[if_pos hq];simp;omega
  ·rw[if_neg hq];simp[b2_len];omega
 rw[if_neg k3];have e2:∀ s:Ts,s.rd ((2:Nat):Int)=s.rd 2:=fun _=>rfl
 have c2:=eats_rd S 2
 try rw[e2]at c2
 have b2:(S.rd 2).l.length≤100000:=Nat.le_trans c2.le b
 by_cases k4:k=4∨k=5∨k=6∨k=7
 ·rw[if_pos k4]
  intro o l;obtain ⟨g1,g2,g3,g4⟩:=(short_eats v { zk k with id:=S.num 2 } (S.rd 2) ⟨rfl,rfl⟩).2 o l b2;obtain ⟨_,g5⟩:=c2.ok g1 b;have hk:(shortK v { zk k with id:=S.num 2 } (S.rd 2)).1.kind=k:=by rw[g4];rfl
  refine dk_of hk g3 (by rw[g4];exact sk0) ?_;unfold behB;rw[hk,if_neg k1,if_neg k2,if_neg k3,if_pos k4,List.length_append,b2_len];omega
 rw[if_neg k4]
 by_cases k8:k=8∨k=10
 ·rw[if_pos k8]
  dsimp only;intro o l;have b3:((S.rd 2).rdS v).l.length≤100000:=Nat.le_trans (rdS_le v _) b2;obtain ⟨g1,g2⟩:=filt_eats k _ _ (Nat.le_refl _) o l b3;obtain ⟨h1,h2,h3⟩:=rdS_sk g1 b2;obtain ⟨_,g5⟩:=c2.ok h2 b;refine dk_of rfl h1 sk0 ?_;refine Nat.le_trans (Nat.le_of_eq (congrArg List.length (beh_f k1 k2 k3 k4 k8))) ?_;dsimp only [zk];rw[List.length_append,List.length_append,b2_len,g2];omega
 rw[if_neg k8]
 by_cases k9:k=9∨k=11
 ·rw[if_pos k9]
  dsimp only;intro o l
  have o2:((S.rd 2).rdS v).ok=true:=by
   rw[ok_iff9]at o ⊢;exact o
  obtain ⟨h1,h2,h3⟩:=rdS_sk o2 b2;obtain ⟨_,g5⟩:=c2.ok h2 b;refine dk_of rfl h1 sk0 ?_;refine Nat.le_trans (Nat.le_of_eq (congrArg List.length (beh_c k1 k2 k3 k4 k8 k9))) ?_;dsimp only [zk];rw[List.length_append,List.length_append,b2_len];omega
 rw[if_neg k9]
 by_cases k14:k=14∨k=15
 ·rw[if_pos k14]
  intro o l;obtain ⟨g1,g2,g3,g4⟩:=(short_eats v (zk k) S ⟨rfl,rfl⟩).2 o l b;have hk:(shortK v (zk k) S).1.kind=k:=by rw[g4];rfl
  refine dk_of hk g3 (by rw[g4];exact sk0) ?_;unfold behB;rw[hk,if_neg k1,if_neg k2,if_neg k3,if_neg k4,if_neg k8,if_neg k9,if_pos k14];omega
 rw[if_neg k14];intro o l;refine dk_of rfl sk0 sk0 ?_;refine Nat.le_trans (Nat.le_of_eq (congrArg List.length (beh_z k1 k2 k3 k4 k8 k9 k14))) ?_;exact Nat.zero_le _
theorem var7_mono:∀ (m n:Nat),n≤m→(var7 n).length≤(var7 m).length:=by
 intro m
 induction m using Nat.strongRecOn with
 | _ m ih =>
  intro n h
  by_cases hm:m < 128
  ·rw[var7_lt hm,var7_lt (by omega)];exact Nat.le_refl _
  ·rw[var7_ge hm]
   by_cases hn:n < 128
   ·rw[var7_lt hn];simp
   ·rw[var7_ge hn,List.length_cons,List.length_cons]
    exact Nat.succ_le_succ (ih (m / 128) (by omega) (n / 128) (by omega))
theorem varL_mono9 {n m:Nat} (h:n≤m) (hm:m≤268435455):(varL n).length≤(varL m).length:=by
 unfold varL;rw[if_pos (by omega),if_pos hm];exact var7_mono m n h
theorem hd_size {l:List UInt8} (h:headE l=0):(headB l).head=1+((varL (headB l).rest).length:Int)∧(headB l).rest≤268435455:=by
 obtain ⟨a1,a2⟩:=head_full l;rw[a1]at h;have a3:=a2 h;rw[a3];dsimp only
 have e1:leftE 1 l 0=0:=by
  by_cases q:leftE 1 l 0=0
  ·exact q
  ·exfalso
   revert h;unfold headS;rw[rv_stop (by rw[show leftE 1 (leftL 1 l 0) (leftE 1 l 0)=leftE 1 l 0 from if_neg q];exact q)];dsimp only;rw[show leftE 1 (leftL 1 l 0) (leftE 1 l 0)=leftE 1 l 0 from if_neg q]
   first|exact q|(rw[show leftE _ _ (leftE 1 l 0)=leftE 1 l 0 from if_neg q];exact q)
 unfold headS at h ⊢;rw[e1]at h ⊢;obtain ⟨b1,b2⟩:=rv_inv h
 have hl:(leftL 1 l 0).length+1=l.length:=by
  unfold leftE at e1;rw[if_pos rfl]at e1;unfold leftL;rw[if_pos rfl]
  by_cases q:0≤(1:Int)∧(1:Int)≤l.length
  ·rw[if_pos q,List.length_drop];omega
  ·rw[if_neg q]at e1;exact absurd e1 (by decide)
 have:=congrArg List.length b1
 rw[List.length_append]at this;exact ⟨by omega,b2⟩
theorem dec_again {v:Int} {l:List UInt8} (hl:l.length≤100000) (h:decE v l=0):Fit (decP v l)∧rightP v (decP v l)=true∧Lays9 v (decP v l)∧(encL v (decP v l)).length≤l.length∧decE v (encL v (decP v l))=0∧decP v (encL v (decP v l))=decP v l:=by
 have hP:decP v l=formP v l:=if_pos h
 have hv:v=4∨v=5:=by
  rcases Classical.em (v=4∨v=5) with q|q
  ·exact q
  ·unfold decE at h;rw[if_neg q]at h;exact absurd h (by decide)
 have hE:formOk v l=true∧rightP v (formP v l)=true:=by
  unfold decE at h;rw[if_pos hv]at h
  by_cases h1:formOk v l=true
  ·rw[if_pos h1]at h
   by_cases h2:rightP v (formP v l)=true
   ·exact ⟨h1,h2⟩
   ·rw[if_neg h2]at h;exact absurd h (by decide)
  ·rw[if_neg h1]at h;exact absurd h (by decide)
 obtain ⟨h1,h2⟩:=hE;have hF:Fit (decP v l):=by rw[hP];exact (ok9_form hl).fit
 have h3:formP v l=(formS v l).1:=if_pos h1;unfold formOk at h1;simp only[Bool.and_eq_true,decide_eq_true_eq]at h1;obtain ⟨e0,e1,e2,e3,e4⟩:=h1;obtain ⟨d1,d2⟩:=hd_size e0;have hd:=fields_dk e3 e4 (show (l.drop (headB l).head.toNat).length≤100000 by rw[List.length_drop];omega);have hd':Dk v (headB l).kind (decP v l) (l.drop (headB l).head.toNat).length:=by rw[hP,h3];exact hd
 have hR:rightP v (decP v l)=true:=by rw[hP];exact h2
 have hb:=dec_back hR hF hd'.l hd'.c;refine ⟨hF,hR,hd'.l,?_,hb.1,hb.2⟩;have hn:=hd'.n;rw[List.length_drop]at hn;unfold encL encB;rw[if_pos hR,List.length_append,List.length_append,b1_len]
 have:=varL_mono9 (n:=(behB v (decP v l)).length) (m:=(headB l).rest) (by omega) d2
 omega
end Go.Proofs.YtdgmkcfkpknamaaGreatDoor
