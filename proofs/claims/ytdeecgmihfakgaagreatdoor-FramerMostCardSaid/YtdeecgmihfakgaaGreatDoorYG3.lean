import Derived.Test.YtdeecgmihfakgaaGreatDoorYG1
import Derived.Test.YtdeecgmihfakgaaGreatDoorYG2
import Derived.Test.YtdeecgmihfakgaaGreatDoorYFT
import Derived.Test.YtdeecgmihfakgaaGreatDoorYFK
import Derived.Lib.SlBytesConst
namespace Go.Proofs.YtdeecgmihfakgaaGreatDoor
open Go.RowKit
set_option linter.unusedVariables false
set_option linter.unusedSimpArgs false
set_option maxRecDepth 100000
namespace Ts
def var (s:Ts):Nat:=(rv 4 0 0 s.l s.e).1
def rdV (s:Ts):Ts:=⟨(rv 4 0 0 s.l s.e).2.1,(rv 4 0 0 s.l s.e).2.2,s.b⟩
end Ts
theorem bin9_le (S:Ts):S.bin.size≤65535:=by
 have h1:=taken_le (num (taken 2 S.l S.e)) (leftL 2 S.l S.e) (leftE 2 S.l S.e);have h2:=num_lt (taken 2 S.l S.e);have h3:=taken_le 2 S.l S.e;have h4:256 ^ (taken 2 S.l S.e).length≤256 ^ 2:=Nat.pow_le_pow_right (by decide) (by omega);have h5:S.bin.size=(binTaken S.l S.e).length:=by unfold Ts.bin;rw[ba_size]
 rw[h5];unfold binTaken;omega
theorem num2_lt (S:Ts):S.num 2 < 65536:=by
 have h1:=taken_le 2 S.l S.e;have h2:=num_lt (taken 2 S.l S.e);have h4:256 ^ (taken 2 S.l S.e).length≤256 ^ 2:=Nat.pow_le_pow_right (by decide) (by omega);unfold Ts.num;omega
structure Lok (L:List Pr):Prop where
 n:L.length≤100000
 w:∀ x∈L,x.wf'∧x.a.size≤9223372036854∧x.b.size≤9223372036854
 s:sizeR L≤100001
theorem size_nil:sizeR []=1:=by decide +kernel
theorem lok_nil:Lok []:=⟨Nat.zero_le _,by simp,by rw[size_nil];omega⟩
theorem size_put {L:List Pr} (h:∀ p∈L,p.wf'):sizeR L=(putL [] L).length:=by
 unfold sizeR putL;cases hn:lenGo L 0 with
 | none=>rfl
 | some n =>
  have:=(lenGo_some L 0 n h hn (by omega)).2.1
  simp[addVar];omega
theorem takeR_bad {l:List UInt8} {e:Int} (he:e≠0):(takeR l e).1=[]:=by
 have h1:leftE 1 l e=e:=if_neg he
 have h2:takeErr l e≠0:=by
  unfold takeErr;rw[rv_stop (by rw[h1];exact he)];dsimp only;rw[h1,show leftE _ _ e=e from if_neg he];exact he
 unfold takeR;rw[if_neg h2]
theorem takeR_len9 (l:List UInt8) (e:Int):(takeR l e).1.length≤l.length:=by
 have h1:(eachL (takeSec l e)).1.length≤(takeSec l e).length:=each_len _ _;have h2:=takeSec_len l e;unfold takeR
 split
 ·split
  ·show (sortL _).length≤_
   rw[sortL_length];omega
  ·exact Nat.zero_le _
 ·exact Nat.zero_le _
theorem takeR_lok {l:List UInt8} (e:Int) (h:l.length≤100000):Lok (takeR l e).1:=by
 by_cases he:e=0
 ·subst he
  cases hb:(takeR l 0).2 with
  | true =>
   obtain ⟨hw,hs,_⟩:=take_canon h hb;exact ⟨Nat.le_trans (takeR_len9 l 0) h,fun x hx=>⟨hw x hx,(hw x hx).ha,(hw x hx).hb⟩,by rw[size_put hw];omega⟩
  | false =>
   have:(takeR l 0).1=[]:=by
    revert hb;unfold takeR
    split
    ·split
     ·intro h;cases h
     ·intro _;rfl
    ·intro _;rfl
   rw[this];exact lok_nil
 ·rw[takeR_bad he];exact lok_nil
theorem sec_lok {S:Ts} (v:Int) (h:S.l.length≤100000):Lok (S.sec v):=by
 unfold Ts.sec
 split
 ·exact lok_nil
 ·exact takeR_lok _ h
structure Ok9 (p:Pk):Prop where
 client:p.client.size≤100000
 willTopic:p.willTopic.size≤100000
 willLoad:p.willLoad.size≤100000
 user:p.user.size≤100000
 pass:p.pass.size≤100000
 topic:p.topic.size≤100000
 load:p.load.size≤100000
 nf:p.filters.length≤100000
 nc:p.codes.length≤100000
 props:Lok p.props
 wprops:Lok p.willProps
 tf:∀ f∈p.filters,f.opt < 256∧f.text.size≤100000
 qos:p.qos < 256
 id:p.id < 65536
 keep:p.keep < 65536
 wq:p.willQoS < 256
 code:p.code < 256
theorem Ok9.fit {p:Pk} (h:Ok9 p):Fit p:=by
 have h1:=h.client;have h2:=h.willTopic;have h3:=h.willLoad;have h4:=h.user;have h5:=h.pass;have h6:=h.topic;have h7:=h.load;have h8:=h.nf;have h9:=h.nc;have h10:=h.props.n;have h11:=h.wprops.n
 exact ⟨⟨h11,h8,h9,h10⟩,⟨fun x hx=>(h.wprops.w x hx).1,fun x hx=>(h.props.w x hx).1⟩,
  ⟨by omega,by omega,by omega,by omega,by omega,by omega,by omega,by omega,by omega,by omega,by omega,fun f hf=>by have:=(h.tf f hf).2;omega,fun x hx=>by have:=(h.props.w x hx).2;omega,fun x hx=>by have:=(h.wprops.w x hx).2;omega⟩,
  h.qos,h.id,h.keep,h.wq,h.code,fun f hf=>(h.tf f hf).1⟩
theorem ok9_zk (k:Int):Ok9 (zk k):=⟨Nat.zero_le _,Nat.zero_le _,Nat.zero_le _,Nat.zero_le _,Nat.zero_le _,Nat.zero_le _,Nat.zero_le _,Nat.zero_le _,Nat.zero_le _,lok_nil,lok_nil,(by intro f hf;cases hf),(by decide:0 < 256),(by decide:0 < 65536),(by decide:0 < 65536),(by decide:0 < 256),(by decide:0 < 256)⟩
section
variable {p:Pk}
theorem Ok9.code9 (h:Ok9 p) {n:Nat} (hn:n < 256):Ok9 { p with code:=n }:=⟨h.client,h.willTopic,h.willLoad,h.user,h.pass,h.topic,h.load,h.nf,h.nc,h.props,h.wprops,h.tf,h.qos,h.id,h.keep,h.wq,hn⟩
theorem Ok9.props9 (h:Ok9 p) {L:List Pr} (hL:Lok L):Ok9 { p with props:=L }:=⟨h.client,h.willTopic,h.willLoad,h.user,h.pass,h.topic,h.load,h.nf,h.nc,hL,h.wprops,h.tf,h.qos,h.id,h.keep,h.wq,h.code⟩
theorem Ok9.id9 (h:Ok9 p) {n:Nat} (hn:n < 65536):Ok9 { p with id:=n }:=⟨h.client,h.willTopic,h.willLoad,h.user,h.pass,h.topic,h.load,h.nf,h.nc,h.props,h.wprops,h.tf,h.qos,hn,h.keep,h.wq,h.code⟩
theorem Ok9.user9 (h:Ok9 p) {b:Bool} {u:ByteArray} (hu:u.size≤100000):Ok9 { p with hasUser:=b,user:=u }:=⟨h.client,h.willTopic,h.willLoad,hu,h.pass,h.topic,h.load,h.nf,h.nc,h.props,h.wprops,h.tf,h.qos,h.id,h.keep,h.wq,h.code⟩
theorem Ok9.pass9 (h:Ok9 p) {b:Bool} {u:ByteArray} (hu:u.size≤100000):Ok9 { p with hasPass:=b,pass:=u }:=⟨h.client,h.willTopic,h.willLoad,h.user,hu,h.topic,h.load,h.nf,h.nc,h.props,h.wprops,h.tf,h.qos,h.id,h.keep,h.wq,h.code⟩
theorem Ok9.pres9 (h:Ok9 p) {b:Bool}:Ok9 { p with present:=b }:=⟨h.client,h.willTopic,h.willLoad,h.user,h.pass,h.topic,h.load,h.nf,h.nc,h.props,h.wprops,h.tf,h.qos,h.id,h.keep,h.wq,h.code⟩
theorem Ok9.uflag (h:Ok9 p) {b:Bool}:Ok9 { p with hasUser:=b }:=h.user9 h.user
theorem Ok9.pflag (h:Ok9 p) {b:Bool}:Ok9 { p with hasPass:=b }:=h.pass9 h.pass
theorem Ok9.will9 (h:Ok9 p) {b r:Bool} {q:Nat} {L:List Pr} {t u:ByteArray} (hq:q < 256) (hL:Lok L) (ht:t.size≤100000) (hu:u.size≤100000):Ok9 { p with hasWill:=b,willQoS:=q,willRetain:=r,willProps:=L,willTopic:=t,willLoad:=u }:=⟨h.client,ht,hu,h.user,h.pass,h.topic,h.load,h.nf,h.nc,h.props,hL,h.tf,h.qos,h.id,h.keep,hq,h.code⟩
end
theorem bin5 (S:Ts):S.bin.size≤100000:=by have:=bin9_le S;omega
theorem rdN {S:Ts} (n:Int) (h:S.l.length≤100000):(S.rd n).l.length≤100000:=Nat.le_trans (rd_le _ _) h
theorem rdBN {S:Ts} (h:S.l.length≤100000):S.rdB.l.length≤100000:=Nat.le_trans (rdB_le _) h
theorem rdSN {S:Ts} (v:Int) (h:S.l.length≤100000):(S.rdS v).l.length≤100000:=Nat.le_trans (rdS_le _ _) h
theorem ok9_short {v:Int} {p:Pk} {S:Ts} (h:Ok9 p) (hn:S.l.length≤100000):Ok9 (shortK v p S).1:=by
 unfold shortK
 split
 ·exact h
 ·split
  ·exact h.code9 (num1_lt S)
  ·exact (h.code9 (num1_lt S)).props9 (sec_lok v (rdN 1 hn))
theorem ok9_will {v:Int} {f:Nat} {p:Pk} {S:Ts} (h:Ok9 p) (hn:S.l.length≤100000):Ok9 (willK v f p S).1:=by
 unfold willK
 split
 ·exact h.will9 (Nat.lt_of_le_of_lt Nat.and_le_right (by decide)) (sec_lok v hn) (bin5 _) (bin5 _)
 ·exact h.will9 h.wq h.wprops h.willTopic h.willLoad
theorem ok9_user {f:Nat} {p:Pk} {S:Ts} (h:Ok9 p):Ok9 (userK f p S).1:=by
 unfold userK
 split
 ·exact h.user9 (bin5 _)
 ·exact h.uflag
theorem ok9_pass {f:Nat} {p:Pk} {S:Ts} (h:Ok9 p):Ok9 (passK f p S).1:=by
 unfold passK
 split
 ·exact h.pass9 (bin5 _)
 ·exact h.pflag
theorem conF_le (v:Int) (S:Ts):(conF v S).l.length≤S.l.length:=Nat.le_trans (rd_le 1 (S.rdB.need (decide (S.bin=mqtt)))) (rdB_le S)
theorem ok9_conn {v:Int} {S:Ts} (hn:S.l.length≤100000):Ok9 (connK v S).1:=by
 have h2:(conF v S).l.length≤100000:=Nat.le_trans (conF_le v S) hn;unfold connK;dsimp only;generalize conF v S=s2 at h2;have h3:((s2.rd 1).need (decide (s2.num 1 &&& 1=0))).l.length≤100000:=rdN 1 h2;generalize (s2.rd 1).need (decide (s2.num 1 &&& 1=0))=s3 at h3 ⊢;refine ok9_pass (ok9_user (ok9_will ?_ (rdBN (rdSN v (rdN 2 h3)))));have z:=ok9_zk 1;exact ⟨bin5 _,z.willTopic,z.willLoad,z.user,z.pass,z.topic,z.load,z.nf,z.nc,sec_lok v (rdN 2 h3),z.wprops,z.tf,z.qos,z.id,num2_lt s3,z.wq,z.code⟩
theorem filt_ok (k:Int):∀ (n:Nat) (S:Ts),(filtK k n S).1.length≤n∧∀ f∈(filtK k n S).1,f.opt < 256∧f.text.size≤100000
 | 0,S=>⟨Nat.zero_le _,by intro f hf;cases hf⟩
 | n+1,S=>by
  by_cases h:S.ok=true∧0 < S.l.length
  ·rw[filtK_go h]
   have ih:=filt_ok k n (if k=8 then S.rdT.rd 1 else S.rdT);refine ⟨by simp only[List.length_cons];omega,fun f hf=>?_⟩;rcases List.mem_cons.1 hf with rfl|hf
   ·refine ⟨?_,bin5 S⟩
    dsimp only
    split
    ·exact num1_lt _
    ·decide
   ·exact ih.2 f hf
  ·rw[filtK_stop h]
   exact ⟨Nat.zero_le _,by intro f hf;cases hf⟩
theorem ok9_fields {v k:Int} {f:Nat} {S:Ts} (hn:S.l.length≤100000):Ok9 (fieldsK v k f S).1:=by
 have z:=ok9_zk;unfold fieldsK
 split
 ·exact ok9_conn hn
 split
 ·have h1:((S.rd 1).need (decide (S.num 1≤1))).l.length≤100000:=rdN 1 hn
  exact (((z 2).pres9 (b:=decide (S.num 1=1))).code9 (num1_lt _)).props9 (sec_lok v (rdN 1 h1))
 split
 ·unfold publK
  dsimp only;have h1:S.rdT.l.length≤100000:=rdBN hn
  have h2:(if (f / 2 &&& 3)=0 then S.rdT else S.rdT.rd 2).l.length≤100000:=by
   split
   ·exact h1
   ·exact rdN 2 h1
  generalize (if (f / 2 &&& 3)=0 then S.rdT else S.rdT.rd 2)=s2 at h2 ⊢;have hl:(s2.rdS v).rest.size≤100000:=by unfold Ts.rest;rw[ba_size];exact rdSN v h2
  have z3:=z 3;refine ⟨z3.client,z3.willTopic,z3.willLoad,z3.user,z3.pass,bin5 S,hl,z3.nf,z3.nc,sec_lok v h2,z3.wprops,z3.tf,Nat.lt_of_le_of_lt Nat.and_le_right (by decide),?_,z3.keep,z3.wq,z3.code⟩;dsimp only
  split
  ·decide
  ·exact num2_lt _
 split
 ·exact ok9_short ((z k).id9 (num2_lt S)) (rdN 2 hn)
 split
 ·have h2:=rdSN v (rdN 2 hn)
  have hf:=filt_ok k ((S.rd 2).rdS v).l.length ((S.rd 2).rdS v);have zz:=z k;exact ⟨zz.client,zz.willTopic,zz.willLoad,zz.user,zz.pass,zz.topic,zz.load,Nat.le_trans hf.1 h2,zz.nc,sec_lok v (rdN 2 hn),zz.wprops,hf.2,zz.qos,num2_lt S,zz.keep,zz.wq,zz.code⟩
 split
 ·have zz:=z k
  exact ⟨zz.client,zz.willTopic,zz.willLoad,zz.user,zz.pass,zz.topic,zz.load,zz.nf,rdSN v (rdN 2 hn),sec_lok v (rdN 2 hn),zz.wprops,zz.tf,zz.qos,num2_lt S,zz.keep,zz.wq,zz.code⟩
 split
 ·exact ok9_short (z k) hn
 ·exact z k
theorem ok9_form {v:Int} {l:List UInt8} (hn:l.length≤100000):Ok9 (formP v l):=by
 unfold formP
 split
 ·exact ok9_fields (by simp only[List.length_drop];omega)
 ·exact ok9_zk 0
theorem b8_take (l:List UInt8) (n:Nat):B8 (l.take n)=(B8 l).take n:=by simp[B8,List.map_take]
theorem b8_drop (l:List UInt8) (n:Nat):B8 (l.drop n)=(B8 l).drop n:=by simp[B8,List.map_drop]
theorem sz8 (w:World):(Go.sizeOf (Tryz.prog.elem 25)).run Tryz.prog w=.ok 1 w:=by
 have e:Tryz.prog.elem 25=5:=by simp[Program.elem,Tryz.underlying25]
 rw[e];exact gs1_5 w
theorem und8:Tryz.prog.underlying 25=some (.slice (Tryz.prog.elem 25)):=by
 have e:Tryz.prog.elem 25=5:=by simp[Program.elem,Tryz.underlying25]
 rw[e];exact Tryz.underlying25
theorem slice_take {w:World} {a:Option Addr} {l:List UInt8} {c:Nat} (hr:Row w a (B8 l)) (hn:a=none→l.length=0∧c=0) (hc:l.length≤c) (n:Nat):∃ a5 c5,(Instr.sliceAt 25 (.slice a l.length c) none (some (.int .i64 ((min l.length n:Nat):Int))) none).run Tryz.prog w=.ok (.slice a5 (l.take n).length c5) w∧Row w a5 (B8 (l.take n))∧(a5=none→(l.take n).length=0∧c5=0)∧(l.take n).length≤c5:=by
 refine ⟨(if c=0 then a else a.map (·.add 0)),c,?_,?_,?_,by rw[List.length_take];omega⟩
 ·rw[run_sliceAt_slice _ _ _ _ _ _ und8,run_slice_h _ _ _ _ _ und8 .i64 _ (by omega) (by omega),sz8]
  simp only[Result.andThen,sliced,Int.toNat_natCast,List.length_take,Nat.zero_mul,Nat.sub_zero];rw[Nat.min_comm]
 ·have h:=(hr.take n).drop (k:=0) (cap:=c) (by simp[B8,List.length_take];omega)
  rw[b8_take];simpa using h
 ·intro e
  have:a=none:=by
   revert e
   split
   ·exact id
   ·cases a<;>simp
  have:=hn this
  rw[List.length_take];omega
theorem slice_drop {w:World} {a:Option Addr} {l:List UInt8} {c:Nat} (hr:Row w a (B8 l)) (hn:a=none→l.length=0∧c=0) (hc:l.length≤c) (k:Nat) (hk:k≤l.length):∃ a5 c5,(Instr.sliceAt 25 (.slice a l.length c) (some (.int .i64 (k:Int))) none none).run Tryz.prog w=.ok (.slice a5 (l.drop k).length c5) w∧Row w a5 (B8 (l.drop k))∧(a5=none→(l.drop k).length=0∧c5=0):=by
 refine ⟨(if c=k then a else a.map (·.add k)),c - k,?_,?_,?_⟩
 ·rw[run_sliceAt_slice _ _ _ _ _ _ und8,run_slice_l _ _ _ _ _ und8 .i64 _ (by omega) (by omega),sz8]
  simp only[Result.andThen,sliced,Int.toNat_natCast,List.length_drop,Nat.mul_one]
 ·have h:=hr.drop (k:=k) (cap:=c) (by simp[B8];omega)
  rw[b8_drop];exact h
 ·intro e
  have:a=none:=by
   revert e
   split
   ·exact id
   ·cases a<;>simp
  have:=hn this
  rw[List.length_drop];omega
theorem hd_flags (l:List UInt8):(headB l).flags < 16:=by
 unfold headB
 split
 ·exact Nat.mod_lt _ (by decide)
 ·decide
theorem hd_head (l:List UInt8):0≤(headB l).head∧(headB l).head≤5:=by
 unfold headB
 split
 ·have h1:=(rv_suf 4 0 0 (leftL 1 (l.take 5) 0) (leftE 1 (l.take 5) 0)).length_le
  have h2:=leftL_le 1 (l.take 5) 0;have h3:(l.take 5).length≤5:=by rw[List.length_take];omega
  unfold headS;dsimp only;omega
 ·exact ⟨Int.le_refl _,by decide⟩
theorem form_1 {v:Int} {l:List UInt8} {hd:Hd} (he:headB l=hd) (h:(((!decide (headE l=0))||(!decide ((l.length:Int)=hd.head+(hd.rest:Int))))||(!headOk v hd))=true):formOk v l=false:=by
 unfold formOk;rw[he];generalize (decide (headE l=0))=A at *;generalize (decide ((l.length:Int)=hd.head+(hd.rest:Int)))=B at *;generalize headOk v hd=C at *;revert h;cases A<;>cases B<;>cases C<;>simp
theorem form_2 {v:Int} {l:List UInt8} {hd:Hd} (h:(((!decide (headE l=0))||(!decide ((l.length:Int)=hd.head+(hd.rest:Int))))||(!headOk v hd))=false):headE l=0∧(l.length:Int)=hd.head+(hd.rest:Int)∧headOk v hd=true:=by
 simpa [and_assoc] using h
theorem form_3 {v:Int} {l:List UInt8} {hd:Hd} {K:Pk × Ts} (he:headB l=hd) (hK:fieldsK v hd.kind hd.flags ⟨l.drop hd.head.toNat,0,false⟩=K) (h:((!K.2.ok)||(!decide (K.2.l.length=0)))=true):formOk v l=false:=by
 unfold formOk formS;rw[he,hK]
 have h1:(K.2.ok&&decide (K.2.l.length=0))=false:=by
  revert h;cases K.2.ok<;>simp
 rw[h1];simp
theorem form_4 {v:Int} {l:List UInt8} {hd:Hd} {K:Pk × Ts} (he:headB l=hd) (h0:headE l=0∧(l.length:Int)=hd.head+(hd.rest:Int)∧headOk v hd=true) (hK:fieldsK v hd.kind hd.flags ⟨l.drop hd.head.toNat,0,false⟩=K) (h:((!K.2.ok)||(!decide (K.2.l.length=0)))=false):formOk v l=true∧formP v l=K.1:=by
 have h1:(K.2.ok&&decide (K.2.l.length=0))=true:=by
  revert h;cases K.2.ok<;>simp
 have h2:formOk v l=true:=by
  unfold formOk formS;rw[he,hK,h1,decide_eq_true h0.1,decide_eq_true h0.2.1,h0.2.2]
  rfl
 refine ⟨h2,?_⟩;unfold formP;rw[if_pos h2];unfold formS;rw[he,hK]
theorem formP_no {v:Int} {l:List UInt8} (h:formOk v l=false):formP v l=zk 0:=if_neg (by rw[h];decide)
section
variable {v:Int} {l:List UInt8}
theorem or9 (h:(!(decide (v=4)||decide (v=5)))=false):v=4∨v=5:=by
 by_cases h4:v=4
 ·exact .inl h4
 ·by_cases h5:v=5
  ·exact .inr h5
  ·rw[decide_eq_false h4,decide_eq_false h5]at h;cases h
theorem dec_arg (h:(!(decide (v=4)||decide (v=5)))=true):decE v l=1∧decP v l=zk 0:=by
 have h1:¬ (v=4∨v=5):=by simpa using h
 have e:decE v l=1:=if_neg h1;exact ⟨e,if_neg (by rw[e];decide)⟩
theorem dec_form (h:(!(decide (v=4)||decide (v=5)))=false) (h2:(!formOk v l)=true):decE v l=3∧decP v l=zk 0:=by
 have h1:v=4∨v=5:=or9 h;have e:decE v l=3:=(if_pos h1).trans (if_neg (by simpa using h2));exact ⟨e,if_neg (by rw[e];decide)⟩
theorem dec_right (h:(!(decide (v=4)||decide (v=5)))=false) (h2:(!formOk v l)=false) (h3:(!rightP v (formP v l))=true):decE v l=4∧decP v l=zk 0:=by
 have h1:v=4∨v=5:=or9 h;have e:decE v l=4:=(if_pos h1).trans ((if_pos (by simpa using h2)).trans (if_neg (by simpa using h3)));exact ⟨e,if_neg (by rw[e];decide)⟩
theorem dec_ok (h:(!(decide (v=4)||decide (v=5)))=false) (h2:(!formOk v l)=false) (h3:(!rightP v (formP v l))=false):decE v l=0∧decP v l=formP v l:=by
 have h1:v=4∨v=5:=or9 h;have e:decE v l=0:=(if_pos h1).trans ((if_pos (by simpa using h2)).trans (if_pos (by simpa using h3)));exact ⟨e,if_pos e⟩
end
structure Aw (B:Nat) (P:Pk) (s:Sl) (W:World):Prop where
 at_:P.At s W
 sc:s.ca=none→P.codes.length=0∧s.cc=0
 lo:∀ b off,(s.fa=some ⟨b,off,none⟩→P.filters≠[]→B≤b)∧(s.ca=some ⟨b,off,none⟩→P.codes≠[]→B≤b)
theorem Aw.zero (B:Nat) (W:World):Aw B (zk 0) ts W:=⟨⟨.nil _ _,.nil _ _,.nil _ _,.nil _ _⟩,fun _=>⟨rfl,rfl⟩,fun b off=>⟨fun _ h=>absurd rfl h,fun _ h=>absurd rfl h⟩⟩
theorem Aw.fin {B B0 b:Nat} {P:Pk} {s:Sl} {w9 W':World} {ty:TypeId} {c:Array Value} (h:Aw B P s w9) (hk:Kept (One b) w9 W') (hb:Blk w9 b ty c) (hn:NoU c) (hlt:b < B) (hB:B0≤B):Aw B0 P s W':=by
 refine ⟨⟨h.at_.hw.propK hk (uOne hb hn),h.at_.hf.kept hk fun b' off e hne hS=>?_,h.at_.hc.kept hk fun b' off e hne hS=>?_,h.at_.hp.propK hk (uOne hb hn)⟩,h.sc,fun b off=>⟨fun e hn=>Nat.le_trans hB ((h.lo b off).1 e hn),fun e hn=>Nat.le_trans hB ((h.lo b off).2 e hn)⟩⟩
 ·have e2:b'=b:=hS
  have:=(h.lo b' off).1 e (fun he=>hne (by rw[he];rfl))
  omega
 ·have e2:b'=b:=hS
  have:=(h.lo b' off).2 e (fun he=>hne (by rw[he];rfl))
  omega
theorem kept_to {S:Nat→Prop} {w w1 W:World} (h:Kept No w w1) (hk:Kept S w1 W):Kept S w W:=(h.mono (fun _ _ f=>f.elim)).trans hk
theorem cv9_32 (n:Nat) (w:World) (h:n < 4294967296):(convert 81 3 (.int .u32 (n:Int))).run Tryz.prog w=.ok (.int .i64 (n:Int)) w:=by
 have u:=Tryz.underlying3;have u2:=Tryz.underlying81;have e:IntKind.i64.wrap (n:Int)=n:=gx_wrap_i64 (by omega) (by omega)
 go_simp
 try exact e
theorem var_lt9 (S:Ts):S.var < 268435456:=by
 have h:=rv_lt 4 0 0 S.l S.e (by decide);have e:(128:Nat) ^ (0+4)=268435456:=by decide
 unfold Ts.var;omega
theorem rdV_le (S:Ts):S.rdV.l.length≤S.l.length:=(rv_suf 4 0 0 S.l S.e).length_le
theorem kVar {w W:World} {T:Nat→Prop} {r:Nat} {S:Ts} (h:Rk w T r S W):Calls Tryz.prog 88 #[.pointer (some ⟨r,0,none⟩)] W fun e w'=>∃ u S1,e=.returned u∧RdP W r (.int .u32 (S.var:Int)) S.rdV S1 u w' :=
 (rvar_any W r S.l S.e h.r).mono fun e w' q=>⟨_,_,q.1,rfl,rfl,Nat.le_trans (rdV_le _) h.n,q.2.rdr,q.2.kept⟩
end Go.Proofs.YtdeecgmihfakgaaGreatDoor
namespace Go.Proofs.YtdeecgmihfakgaaGreatDoor
open Go.RowKit
set_option linter.unusedVariables false
set_option linter.unusedSimpArgs false
set_option maxRecDepth 100000
theorem exists_any9 (v:Int) (w:World):Calls Tryz.prog 72 #[.int .i64 v] w fun e w'=>e=.returned (.bool (decide (v=4)||decide (v=5)))∧Kept No w w':=by
 let RR:Ending→World→Prop:=fun e w'=>e=.returned (.bool (decide (v=4)||decide (v=5)))∧Kept No w w'
 go_enter Tryz.func72,Tryz.ntmps72
 generalize hA:({ tmps:=_,defers:=[] }:Act)=A;have F:Fr A 9 [(0,(.int .i64 v))]:=by rw[← hA];exact (Fr.cons (i:=0) (v:=(.int .i64 v)) (Fr.nil0 rfl rfl) rfl)
 clear hA;have H:=Hp.start w;refine wp_seq_k (fun K1 hK1=>gx_region ?_);refine zd ?_;intro A F;refine wpList_nil (hK1 _ _ ?_);refine wp_seq_k (fun K2 hK2=>gx_region ?_);refine zd ?_;intro A F;refine zb (rn_eql) ?_;intro A F;refine zd ?_;intro A F;refine zg ?_;intro A F;refine zgb (rn_eql) ?_;intro A F;refine hz_do F rfl (ex_pickO rfl (F.e rfl) (fun hx=>(F.o rfl (gnt hx))) rfl) ?_;intro A F;refine zd ?_;intro A F;refine wpList_nil (hK2 _ _ ?_);refine gx_ret ?_;refine (show bodyPost _ Tryz.f72 RR Exit.ret _ _ from zr ?_);exact ⟨rfl,H.k⟩
theorem hok_1 {v:Int} {h:Hd} (h9:(((!(decide (v=4)||decide (v=5)))||decide (h.kind=0))||(decide (v=4)&&decide (h.kind=15)))=true):headOk v h=false:=by
 unfold headOk;rw[if_pos (by rw[← Bool.or_assoc];exact h9)]
theorem hok_2 {v:Int} {h:Hd} (h9:(((!(decide (v=4)||decide (v=5)))||decide (h.kind=0))||(decide (v=4)&&decide (h.kind=15)))=false):headOk v h=if h.kind=3 then true else if h.kind=6∨h.kind=8∨h.kind=10 then decide (h.flags=2) else decide (h.flags=0):=by
 unfold headOk;rw[if_neg (by rw[← Bool.or_assoc,h9];decide)]
set_option maxHeartbeats 4000000 in
theorem hright_any9 (v:Int) (h:Hd) (w:World):Calls Tryz.prog 73 #[.int .i64 v,.agg #[.int .i64 h.kind,.int .u8 (h.flags:Int),.int .i64 h.head,.int .i64 (h.rest:Int)]] w fun e w'=>e=.returned (.bool (headOk v h))∧Kept No w w':=by
 let RR:Ending→World→Prop:=fun e w'=>e=.returned (.bool (headOk v h))∧Kept No w w'
 go_enter Tryz.func73,Tryz.ntmps73
 generalize hA:({ tmps:=_,defers:=[] }:Act)=A;have F:Fr A 36 [(1,(.agg #[(.int .i64 h.kind),(.int .u8 ((h.flags:Int))),(.int .i64 h.head),(.int .i64 ((h.rest:Int)))])),(0,(.int .i64 v))]:=by rw[← hA];exact (Fr.cons (i:=1) (v:=(.agg #[(.int .i64 h.kind),(.int .u8 ((h.flags:Int))),(.int .i64 h.head),(.int .i64 ((h.rest:Int)))])) (Fr.cons (i:=0) (v:=(.int .i64 v)) (Fr.nil0 rfl rfl) rfl) rfl)
 clear hA;have H:=Hp.start w;refine wp_seq_k (fun K1 hK1=>gx_region ?_);refine hz_new (c:=#[(.int .i64 h.kind),(.int .u8 ((h.flags:Int))),(.int .i64 h.head),(.int .i64 ((h.rest:Int)))]) (t:=57) F H rfl (ex_box rfl (F.e rfl) (gx_box _ _)) ?_;clear F A;intro b2 W A hk hN H9 F;clear H;have H:=H9;clear H9;clear hk hN;refine zd ?_;intro A F;refine wpList_nil (hK1 _ _ ?_);refine wp_seq_k (fun K3 hK3=>?_);refine wp_seq_k (fun K4 hK4=>gx_region ?_);refine zd ?_;intro A F;refine hz_callk F H rfl (ex_call rfl rfl (gx_l1 (F.e rfl) gx_l0) fn_72) (exists_any9 v _) ?_;clear F H A;intro W A hk H F;clear hk
 iterate 2 (refine zd ?_;intro A F)
 iterate 2 (refine zg ?_;intro A F)
 refine zgb (rn_eql) ?_;intro A F;refine hz_do F rfl (ex_pickO rfl (F.e rfl) (fun hx=>(F.o rfl (gnt hx))) rfl) ?_;intro A F;refine zd ?_;intro A F;refine zg ?_;intro A F;refine zgb (rn_eql) ?_;intro A F
 iterate 3 (refine zg ?_;intro A F)
 refine zgb (rn_eql) ?_;intro A F;refine zg ?_;intro A F;refine hz_do F rfl (ex_pickO rfl (F.e rfl) (fun hx=>(F.o rfl (gnt hx))) rfl) ?_;intro A F;refine wpList_nil (hK4 _ _ ?_);refine zc (fun hb6=>?_) (fun hb6=>?_)
 ·skip
  replace F:=((F.nil.cons (F.g 4 _ rfl)).cons (F.g 3 _ rfl))
  refine wp_seq_k (fun K7 hK7=>gx_region ?_);refine zd ?_;intro A F;refine wpList_nil (hK7 _ _ ?_);refine gx_ret ?_;refine (show bodyPost _ Tryz.f73 RR Exit.ret _ _ from zr ?_);exact ⟨congrArg (fun b=>Ending.returned (.bool b)) (hok_1 hb6).symm,H.k⟩
 replace F:=((F.nil.cons (F.g 4 _ rfl)).cons (F.g 3 _ rfl))
 refine wp_skip (hK3 _ _ ?_);refine wp_seq_k (fun K8 hK8=>?_);refine wp_seq_k (fun K9 hK9=>gx_region ?_)
 iterate 2 (refine zd ?_;intro A F)
 refine wpList_nil (hK9 _ _ ?_);refine wp_block ?_;refine wp_seq_k (fun K10 hK10=>gx_region ?_);refine zb (rn_eql) ?_;intro A F;refine zd ?_;intro A F;refine wpList_nil (hK10 _ _ ?_);refine zc (fun hb11=>?_) (fun hb11=>?_)
 ·skip
  refine wp_seq_k (fun K12 hK12=>gx_region ?_);refine zd ?_;intro A F;refine wpList_nil (hK12 _ _ ?_);refine gx_ret ?_;refine (show bodyPost _ Tryz.f73 RR Exit.ret _ _ from zr ?_);exact ⟨congrArg (fun b=>Ending.returned (.bool b)) (by have e9:=(hok_2 hb6).trans (if_pos (by have:=of_decide_eq_true hb11;omega));rw[e9];first|done|rfl|(apply decide_eq_decide.2;omega)),H.k⟩
 refine wp_seq_k (fun K13 hK13=>?_);refine wp_seq_k (fun K14 hK14=>gx_region ?_);refine zb (rn_eql) ?_;intro A F;refine zd ?_;intro A F;refine wpList_nil (hK14 _ _ ?_);refine zc (fun hb15=>?_) (fun hb15=>?_)
 ·skip
  refine wp_skip (hK13 _ _ ?_);refine wp_cond_true ((F.e rfl).trans (congrArg Value.bool hb15)) ?_;refine wp_seq_k (fun K16 hK16=>gx_region ?_)
  iterate 2 (refine zd ?_;intro A F)
  refine zb (rn_eqlN (i:=h.flags) (j:=2)) ?_;intro A F;refine zd ?_;intro A F;refine wpList_nil (hK16 _ _ ?_);refine gx_ret ?_;refine (show bodyPost _ Tryz.f73 RR Exit.ret _ _ from zr ?_);exact ⟨congrArg (fun b=>Ending.returned (.bool b)) (by have e9:=(hok_2 hb6).trans ((if_neg (by have:=of_decide_eq_false hb11;have:=of_decide_eq_true hb15;omega)).trans (if_pos (by have:=of_decide_eq_false hb11;have:=of_decide_eq_true hb15;omega)));rw[e9];first|done|rfl|(apply decide_eq_decide.2;omega)),H.k⟩
 refine wp_seq_k (fun K17 hK17=>gx_region ?_);refine zb (rn_eql) ?_;intro A F;refine zd ?_;intro A F;refine wpList_nil (hK17 _ _ ?_);refine zc (fun hb18=>?_) (fun hb18=>?_)
 ·skip
  refine wp_skip (hK13 _ _ ?_);refine wp_cond_true ((F.e rfl).trans (congrArg Value.bool hb18)) ?_;refine wp_seq_k (fun K19 hK19=>gx_region ?_)
  iterate 2 (refine zd ?_;intro A F)
  refine zb (rn_eqlN (i:=h.flags) (j:=2)) ?_;intro A F;refine zd ?_;intro A F;refine wpList_nil (hK19 _ _ ?_);refine gx_ret ?_;refine (show bodyPost _ Tryz.f73 RR Exit.ret _ _ from zr ?_);exact ⟨congrArg (fun b=>Ending.returned (.bool b)) (by have e9:=(hok_2 hb6).trans ((if_neg (by have:=of_decide_eq_false hb11;have:=of_decide_eq_false hb15;have:=of_decide_eq_true hb18;omega)).trans (if_pos (by have:=of_decide_eq_false hb11;have:=of_decide_eq_false hb15;have:=of_decide_eq_true hb18;omega)));rw[e9];first|done|rfl|(apply decide_eq_decide.2;omega)),H.k⟩
 refine gx_region ?_;refine zb (rn_eql) ?_;intro A F;refine zd ?_;intro A F;refine wpList_nil (hK13 _ _ ?_);refine zc (fun hb20=>?_) (fun hb20=>?_)
 ·skip
  refine wp_seq_k (fun K21 hK21=>gx_region ?_)
  iterate 2 (refine zd ?_;intro A F)
  refine zb (rn_eqlN (i:=h.flags) (j:=2)) ?_;intro A F;refine zd ?_;intro A F;refine wpList_nil (hK21 _ _ ?_);refine gx_ret ?_;refine (show bodyPost _ Tryz.f73 RR Exit.ret _ _ from zr ?_);exact ⟨congrArg (fun b=>Ending.returned (.bool b)) (by have e9:=(hok_2 hb6).trans ((if_neg (by have:=of_decide_eq_false hb11;have:=of_decide_eq_false hb15;have:=of_decide_eq_false hb18;have:=of_decide_eq_true hb20;omega)).trans (if_pos (by have:=of_decide_eq_false hb11;have:=of_decide_eq_false hb15;have:=of_decide_eq_false hb18;have:=of_decide_eq_true hb20;omega)));rw[e9];first|done|rfl|(apply decide_eq_decide.2;omega)),H.k⟩
 refine wp_skip (hK8 _ _ ?_);refine wp_seq_k (fun K22 hK22=>gx_region ?_)
 iterate 2 (refine zd ?_;intro A F)
 refine zb (rn_eqlN (i:=h.flags) (j:=0)) ?_;intro A F;refine zd ?_;intro A F;refine wpList_nil (hK22 _ _ ?_);refine gx_ret ?_;refine (show bodyPost _ Tryz.f73 RR Exit.ret _ _ from zr ?_);exact ⟨congrArg (fun b=>Ending.returned (.bool b)) (by have e9:=(hok_2 hb6).trans ((if_neg (by have:=of_decide_eq_false hb11;have:=of_decide_eq_false hb15;have:=of_decide_eq_false hb18;have:=of_decide_eq_false hb20;omega)).trans (if_neg (by have:=of_decide_eq_false hb11;have:=of_decide_eq_false hb15;have:=of_decide_eq_false hb18;have:=of_decide_eq_false hb20;omega)));rw[e9];first|done|rfl|(apply decide_eq_decide.2;omega)),H.k⟩
set_option maxHeartbeats 4000000 in
theorem head_any9 (a:Option Addr) (c:Nat) (l:List UInt8) (w:World) (hr:Row w a (B8 l)) (hn:a=none→l.length=0∧c=0) (hc:l.length≤c):Calls Tryz.prog 30 #[.slice a l.length c] w fun e w'=>e=.returned (.tuple #[.agg #[.int .i64 (headB l).kind,.int .u8 ((headB l).flags:Int),.int .i64 (headB l).head,.int .i64 ((headB l).rest:Int)],.int .i64 (headE l)])∧Kept No w w':=by
 let RR:Ending→World→Prop:=fun e w'=>e=.returned (.tuple #[.agg #[.int .i64 (headB l).kind,.int .u8 ((headB l).flags:Int),.int .i64 (headB l).head,.int .i64 ((headB l).rest:Int)],.int .i64 (headE l)])∧Kept No w w'
 go_enter Tryz.func30,Tryz.ntmps30
 generalize hA:({ tmps:=_,defers:=[] }:Act)=A;have F:Fr A 38 [(0,(.slice a l.length c))]:=by rw[← hA];exact (Fr.cons (i:=0) (v:=(.slice a l.length c)) (Fr.nil0 rfl rfl) rfl)
 clear hA;have H:=Hp.start w;have h5:(l.take 5).length≤5:=by rw[List.length_take];omega
 refine wp_seq_k (fun K1 hK1=>gx_region ?_);refine hz_new (c:=#[(.int .i64 0),(.int .u8 0),(.int .i64 0),(.int .i64 0)]) (t:=57) F H rfl (ex_alloc rfl (al_57 _)) ?_;clear F A;intro hb W A hk hN H9 F;clear H;have H:=H9;clear H9;clear hk hN;refine zd ?_;intro A F;refine wpList_nil (hK1 _ _ ?_);refine wp_seq_k (fun K2 hK2=>gx_region ?_)
 iterate 2 (refine zd ?_;intro A F)
 refine hz_do F rfl (ex_len rfl (gx_l1 (F.e rfl) gx_l0) (rn_lens Tryz.underlying25)) ?_;intro A F;refine hz_do F rfl (ex_minN rfl (gx_l1 (F.e rfl) (gx_l1 gx_evc gx_l0))) ?_;intro A F;obtain ⟨a5,c5,hsl,hr5,hn5,hc5⟩:=slice_take (hr.keptNo H.k) hn hc 5;refine hz_do (v:=(.slice a5 ((l.take 5).length) c5)) F rfl (ex_slice rfl (F.e rfl) rfl (congrArg some (F.e rfl)) rfl hsl) ?_;intro A F;refine zd ?_;intro A F;refine wpList_nil (hK2 _ _ ?_);refine wp_seq_k (fun K3 hK3=>gx_region ?_);refine zd ?_;intro A F;refine hz_call (R:=fun vv ww=>∃ r:Nat,vv=.pointer (some ⟨r,0,none⟩)∧w.heap.size≤r∧Rdr ww r (l.take 5) 0) F H rfl (ex_call rfl rfl (gx_l1 (F.e rfl) gx_l0) fn_74) ((read_any a5 c5 (l.take 5) _ hr5 hn5 (by omega)).mono fun e9 ww ⟨r9,h91,h92,h93,h94⟩=>⟨_,h91,⟨r9,rfl,Nat.le_trans H.size h92,h93⟩,h94⟩) ?_;clear F H A;intro vv W A hR hk H F;obtain ⟨r,rfl,hr0,hR0⟩:=hR;clear hk;obtain ⟨S0,hS0⟩:∃ S0:Ts,S0=⟨l.take 5,0,false⟩:=⟨_,rfl⟩
 have hZ:Rk w (fun _=>True) r S0 _:=⟨by rw[hS0];show (l.take 5).length≤100000;exact (by omega),by rw[hS0];exact hR0,H.k.mono (fun _ _ f=>f.elim)⟩
 clear hR0;have hS0l:S0.l.length≤(l.take 5).length:=by rw[hS0];exact Nat.le_refl _
 refine zd ?_;intro A F;refine wpList_nil (hK3 _ _ ?_);refine wp_seq_k (fun K5 hK5=>gx_region ?_);refine zd ?_;intro A F;refine hz_callX (fun (x:Ts)=>[⟨hb,57,#[(.int .i64 0),(.int .u8 0),(.int .i64 0),(.int .i64 0)]⟩]) (RdP _ r (.int .u8 ((S0.num 1:Int))) (S0.rd 1)) F rfl (ex_call rfl rfl (gx_l1 (F.e rfl) gx_l0) fn_87) (kByte hZ) (fun S6 _ _ h=>Hp.re H (h.2.2.k) (ge1 hr0) ⟨kP1 (h.2.2.k) hZ.r.blk (ne9 rfl),trivial⟩) ?_;clear F H A;intro S6 vv W A hR H F;obtain ⟨rfl,hS6,hZ9⟩:=hR
 try dsimp only at H
 replace hZ:=hZ.step hZ9 (fun _ _=>trivial);clear hZ9;have h86:=num1_lt S0;refine zd ?_;intro A F;refine hz_callX (fun (x:Ts)=>[⟨hb,57,#[(.int .i64 0),(.int .u8 0),(.int .i64 0),(.int .i64 0)]⟩]) (RdP _ r (.int .u32 ((S6.var:Int))) S6.rdV) F rfl (ex_call rfl rfl (gx_l1 (F.e rfl) gx_l0) fn_88) (kVar hZ) (fun S7 _ _ h=>Hp.re H (h.2.2.k) (ge1 hr0) ⟨kP1 (h.2.2.k) hZ.r.blk (ne9 rfl),trivial⟩) ?_;clear F H A;intro S7 vv W A hR H F;obtain ⟨rfl,hS7,hZ9⟩:=hR
 try dsimp only at H
 replace hZ:=hZ.step hZ9 (fun _ _=>trivial);clear hZ9;have hn9:=hZ.n
 iterate 2 (refine zd ?_;intro A F)
 refine wpList_nil (hK5 _ _ ?_);refine wp_seq_k (fun K8 hK8=>?_);refine wp_seq_k (fun K9 hK9=>gx_region ?_);refine zd ?_;intro A F;refine hz_callk F H rfl (ex_call rfl rfl (gx_l1 (F.e rfl) gx_l0) fn_89) (kErr hZ) ?_;clear F H A;intro W A hk H F;replace hZ:=hZ.no hk;clear hk;refine zb (rn_neq) ?_;intro A F;refine wpList_nil (hK9 _ _ ?_);refine zc (fun hb11=>?_) (fun hb11=>?_)
 ·skip
  replace F:=((((((F.nil.cons (F.g 7 _ rfl)).cons (F.g 6 _ rfl)).cons (F.g 5 _ rfl)).cons (F.g 4 _ rfl)).cons (F.g 3 _ rfl)).cons (F.g 2 _ rfl))
  refine wp_seq_k (fun K12 hK12=>gx_region ?_);refine hz_do (v:=(.agg #[(.int .i64 0),(.int .u8 0),(.int .i64 0),(.int .i64 0)])) F rfl (ex_build rfl gx_p0 (by kernel_rfl)) ?_;intro A F;refine zd ?_;intro A F;refine hz_callk F H rfl (ex_call rfl rfl (gx_l1 (F.e rfl) gx_l0) fn_89) (kErr hZ) ?_;clear F H A;intro W A hk H F;replace hZ:=hZ.no hk;clear hk;obtain ⟨W9,hr,hB,hk⟩:=gx_storeAgg (P:=Tryz.prog) (S:=57) (c:=#[(.int .i64 0),(.int .u8 0),(.int .i64 0),(.int .i64 0)]) _ (H.b.at_ (j:=0) rfl).1 (gs_57 _) rfl (by simp[Value.oneCell']);replace hZ:=hZ.st (H.b.at_ (j:=0) rfl).1 (ne9 rfl) (ne9 rfl) (.inr trivial) hk;refine hz_st (ex_store rfl (F.e rfl) (F.e rfl) hr) ?_;clear hr;replace H:Hp _ _ [_]:=Hp.turn [] H hk hB;clear hk hB;refine zd ?_;intro A F;refine wpList_nil (hK12 _ _ ?_);refine gx_ret ?_;refine (show bodyPost _ Tryz.f30 RR Exit.ret _ _ from ?_);exact bodyPost_ret (gx_resc2 rfl (F.g 2 _ rfl) (F.g 3 _ rfl) (gl_agg (#[(.int .i64 0),(.int .u8 0),(.int .i64 0),(.int .i64 0)]) rfl (ga_57 _) (gs_57 _) (fun i=>H.cs 0 rfl i))) F.d ((by have hE:headE l=S7.e:=(by subst hS7 hS6;subst hS0;rfl);have hB:headB l=⟨0,0,0,0⟩:=if_neg (by rw[hE];have h9:(!decide (S7.e=0))=true:=hb11;simpa using h9);exact ⟨by first|(rw[hB,hE];done)|(rw[hB,hE];rfl),H.k⟩))
 replace F:=((((((F.nil.cons (F.g 7 _ rfl)).cons (F.g 6 _ rfl)).cons (F.g 5 _ rfl)).cons (F.g 4 _ rfl)).cons (F.g 3 _ rfl)).cons (F.g 2 _ rfl))
 refine wp_skip (hK8 _ _ ?_);refine wp_seq_k (fun K14 hK14=>gx_region ?_);refine zd ?_;intro A F;refine hz_do F rfl (ex_bin rfl (F.e rfl) gx_evc (rn_quoN (i:=S0.num 1) (j:=16) (by decide) (gx_wrap_u8 (by omega) (by omega)))) ?_;intro A F;refine hz_do (v:=(.int .i64 ((((S0.num 1) / 16:Nat):Int)))) F rfl (ex_conv rfl (F.e rfl) (cv8_any ((((S0.num 1) / 16:Nat):Int)) _ (by omega) (by omega))) ?_;intro A F;refine zd ?_;intro A F;refine zb (rn_remN (i:=S0.num 1) (j:=16) (by decide)) ?_;intro A F;refine zd ?_;intro A F;refine hz_do F rfl (ex_len rfl (gx_l1 (F.e rfl) gx_l0) (rn_lens Tryz.underlying25)) ?_;intro A F;refine zd ?_;intro A F;refine hz_callk F H rfl (ex_call rfl rfl (gx_l1 (F.e rfl) gx_l0) fn_77) (kLeft hZ) ?_;clear F H A;intro W A hk H F;replace hZ:=hZ.no hk;clear hk;refine hz_do F rfl (ex_bin rfl (F.e rfl) (F.e rfl) (rn_sub (gx_wrap_i64 (by omega) (by omega)))) ?_;intro A F;refine zd ?_;intro A F;refine hz_do (v:=(.int .i64 ((S6.var:Int)))) F rfl (ex_conv rfl (F.e rfl) (cv9_32 _ _ (by have:=var_lt9 S6;omega))) ?_;intro A F;refine hz_do (v:=(.agg #[(.int .i64 ((((S0.num 1) / 16:Nat):Int))),(.int .u8 ((((S0.num 1) % 16:Nat):Int))),(.int .i64 (((((l.take 5).length):Int)) - ((S7.l.length:Int)))),(.int .i64 ((S6.var:Int)))])) F rfl (ex_build rfl (gx_p1 (F.e rfl) (gx_p1 (F.e rfl) (gx_p1 (F.e rfl) (gx_p1 (F.e rfl) gx_p0)))) (by kernel_rfl)) ?_;intro A F;obtain ⟨W9,hr,hB,hk⟩:=gx_storeAgg (P:=Tryz.prog) (S:=57) (c:=#[(.int .i64 ((((S0.num 1) / 16:Nat):Int))),(.int .u8 ((((S0.num 1) % 16:Nat):Int))),(.int .i64 (((((l.take 5).length):Int)) - ((S7.l.length:Int)))),(.int .i64 ((S6.var:Int)))]) _ (H.b.at_ (j:=0) rfl).1 (gs_57 _) rfl (by simp[Value.oneCell']);replace hZ:=hZ.st (H.b.at_ (j:=0) rfl).1 (ne9 rfl) (ne9 rfl) (.inr trivial) hk;refine hz_st (ex_store rfl (F.e rfl) (F.e rfl) hr) ?_;clear hr;replace H:Hp _ _ [_]:=Hp.turn [] H hk hB;clear hk hB;refine zd ?_;intro A F;refine wpList_nil (hK14 _ _ ?_);refine gx_ret ?_;refine (show bodyPost _ Tryz.f30 RR Exit.ret _ _ from ?_);exact bodyPost_ret (gx_resc2 rfl (F.g 2 _ rfl) (F.g 3 _ rfl) (gl_agg (#[(.int .i64 ((((S0.num 1) / 16:Nat):Int))),(.int .u8 ((((S0.num 1) % 16:Nat):Int))),(.int .i64 (((((l.take 5).length):Int)) - ((S7.l.length:Int)))),(.int .i64 ((S6.var:Int)))]) rfl (ga_57 _) (gs_57 _) (fun i=>H.cs 0 rfl i))) F.d ((by have hE:headE l=S7.e:=(by subst hS7 hS6;subst hS0;rfl);have h8:S7.e=0:=(by have h9:(!decide (S7.e=0))=false:=hb11;simpa using h9);have hB:headB l=⟨((S0.num 1 / 16:Nat):Int),S0.num 1 % 16,((l.take 5).length:Int) - (S7.l.length:Int),S6.var⟩:=(by subst hS7 hS6;subst hS0;exact if_pos (hE.trans h8));exact ⟨by first|(rw[hB,hE,h8];done)|(rw[hB,hE,h8];rfl),H.k⟩))
open Go.RowKit
set_option linter.unusedVariables false
set_option linter.unusedSimpArgs false
set_option maxRecDepth 100000
theorem hd_rest (l:List UInt8):(headB l).rest < 268435456:=by
 unfold headB
 split
 ·exact rv_lt 4 0 0 _ _ (by decide)
 ·decide
def FormR (B:Nat) (v:Int) (l:List UInt8) (u:Value) (W:World):Prop:=∃ s1,u=.tuple #[(formP v l).val s1,.bool (formOk v l)]∧Aw B (formP v l) s1 W
def DecR (B:Nat) (v:Int) (l:List UInt8) (u:Value) (W:World):Prop:=∃ s1,u=.tuple #[(decP v l).val s1,.int .i64 (decE v l)]∧Aw B (decP v l) s1 W
set_option maxHeartbeats 8000000 in
theorem form_any9 (v:Int) (a:Option Addr) (c:Nat) (l:List UInt8) (w:World) (hr:Row w a (B8 l)) (hn:a=none→l.length=0∧c=0) (hc:l.length≤c) (hl:l.length≤100000) (hT:Tabs w) :
  Calls Tryz.prog 26 #[.int .i64 v,.slice a l.length c] w fun e w'=>∃ u,e=.returned u∧FormR w.heap.size v l u w'∧Kept No w w':=by
 let RR:Ending→World→Prop:=fun e w'=>∃ u,e=.returned u∧FormR w.heap.size v l u w'∧Kept No w w'
 go_enter Tryz.func26,Tryz.ntmps26
 generalize hA:({ tmps:=_,defers:=[] }:Act)=A;have F:Fr A 53 [(1,(.slice a l.length c)),(0,(.int .i64 v))]:=by rw[← hA];exact (Fr.cons (i:=1) (v:=(.slice a l.length c)) (Fr.cons (i:=0) (v:=(.int .i64 v)) (Fr.nil0 rfl rfl) rfl) rfl)
 clear hA;have H:=Hp.start w;obtain ⟨hd,he⟩:∃ hd,headB l=hd:=⟨_,rfl⟩
 have HC:∀ W,Kept No w W→Calls Tryz.prog 30 #[.slice a l.length c] W fun e w'=>e=.returned (.tuple #[.agg #[.int .i64 hd.kind,.int .u8 (hd.flags:Int),.int .i64 hd.head,.int .i64 (hd.rest:Int)],.int .i64 (headE l)])∧Kept No W w':=fun W hk=>by have h9:=head_any9 a c l W (hr.keptNo hk) hn hc;rw[he]at h9;exact h9
 refine wp_seq_k (fun K1 hK1=>gx_region ?_);refine hz_new (c:=zeroPk) (t:=33) F H rfl (ex_alloc rfl (al_33 _)) ?_;clear F A;intro q4 W A hk hN H9 F;clear H;have H:=H9;clear H9;clear hk hN;refine zd ?_;intro A F;refine wpList_nil (hK1 _ _ ?_);refine wp_seq_k (fun K2 hK2=>gx_region ?_);refine zd ?_;intro A F;refine hz_callk F H rfl (ex_call rfl rfl (gx_l1 (F.e rfl) gx_l0) fn_30) (HC _ H.k) ?_;clear F H A;intro W A hk H F;clear hk
 iterate 3 (refine zd ?_;intro A F)
 refine hz_new (c:=#[(.int .i64 0),(.int .u8 0),(.int .i64 0),(.int .i64 0)]) (t:=57) F H rfl (ex_alloc rfl (al_57 _)) ?_;clear F A;intro hb W A hk hN H9 F;clear H;have H:=H9;clear H9;clear hk hN;obtain ⟨W9,hr,hB,hk⟩:=gx_storeAgg (P:=Tryz.prog) (S:=57) (c:=#[(.int .i64 hd.kind),(.int .u8 ((hd.flags:Int))),(.int .i64 hd.head),(.int .i64 ((hd.rest:Int)))]) _ (H.b.at_ (j:=0) rfl).1 (gs_57 _) rfl (by simp[Value.oneCell']);refine hz_st (ex_store rfl (F.e rfl) (F.e rfl) hr) ?_;clear hr;replace H:Hp _ _ [_,_]:=Hp.turn [] H hk hB;clear hk hB;refine zd ?_;intro A F;refine wpList_nil (hK2 _ _ ?_);refine wp_seq_k (fun K4 hK4=>?_);refine wp_seq_k (fun K5 hK5=>?_);have hfl:=hd_flags l;have hh:=hd_head l;have hrs:=hd_rest l;rw[he]at hfl hh hrs;refine gx_region ?_;refine zd ?_;intro A F;refine zb (rn_neq) ?_;intro A F;refine zd ?_;intro A F;refine zg ?_;intro A F;refine hz_g F rfl (hw_f F rfl rfl rfl) (fun hG=>(ex_len rfl (gx_l1 (F.o rfl hG) gx_l0) (rn_lens Tryz.underlying25))) ?_;intro A F
 iterate 4 (refine zg ?_;intro A F)
 refine hz_g F rfl (hw_f F rfl rfl rfl) (fun hG=>(ex_bin rfl (F.o rfl hG) (F.o rfl hG) (rn_add (gx_wrap_i64 (by omega) (by omega))))) ?_;intro A F;refine zgb (rn_neq) ?_;intro A F;refine hz_do F rfl (ex_pickO rfl (F.e rfl) (fun hx=>(F.o rfl (gnt hx))) rfl) ?_;intro A F;refine zd ?_;intro A F;refine zg ?_;intro A F;refine hz_g F rfl (hw_f F rfl rfl rfl) (fun hG=>(ex_load rfl (F.e rfl) (gl_agg (#[(.int .i64 hd.kind),(.int .u8 ((hd.flags:Int))),(.int .i64 hd.head),(.int .i64 ((hd.rest:Int)))]) rfl (ga_57 _) (gs_57 _) (fun i=>H.cs 0 rfl i)))) ?_;intro A F;refine hz_callg F H rfl (hw_f F rfl rfl rfl) (fun hG=>(ex_call rfl rfl (gx_l1 (F.o rfl hG) (gx_l1 (F.o rfl hG) gx_l0)) fn_73)) (fun hG=>hright_any9 v hd _) ?_;clear F H A;intro W A hk H F;clear hk;refine zg ?_;intro A F;refine hz_do F rfl (ex_pickO rfl (F.e rfl) (fun hx=>(F.o rfl (gnt hx))) rfl) ?_;intro A F;refine wpList_nil (hK5 _ _ ?_);refine zc (fun hb7=>?_) (fun hb7=>?_)
 ·skip
  replace F:=(((((F.nil.cons (F.g 6 _ rfl)).cons (F.g 5 _ rfl)).cons (F.g 4 _ rfl)).cons (F.g 1 _ rfl)).cons (F.g 0 _ rfl))
  refine wp_seq_k (fun K8 hK8=>gx_region ?_);refine hz_do (v:=(Pk.val ((zk 0)) ts)) F rfl (ex_build rfl gx_p0 (by kernel_rfl)) ?_;intro A F;obtain ⟨W9,hr,hB,hk⟩:=gx_storeAgg (P:=Tryz.prog) (S:=33) (c:=(Pk.cells ((zk 0)) ts)) _ (H.b.at_ (j:=1) rfl).1 (gs_33 _) rfl (pk_one _ _);refine hz_st (ex_store rfl (F.e rfl) (F.e rfl) hr) ?_;clear hr;replace H:Hp _ _ [_,_]:=Hp.turn [_] H hk hB;clear hk hB;refine zd ?_;intro A F;refine wpList_nil (hK8 _ _ ?_);refine gx_ret ?_;refine (show bodyPost _ Tryz.f26 RR Exit.ret _ _ from ?_);exact bodyPost_ret (gx_resc2 rfl (F.g 4 _ rfl) (F.g 5 _ rfl) (gl_agg ((Pk.cells ((zk 0)) ts)) rfl (ga_33 _) (gs_33 _) (fun i=>H.cs 1 rfl i))) F.d ((by have hF:=form_1 he hb7;have hP:=formP_no hF;exact ⟨_,rfl,⟨ts,(by first|(rw[hP,hF];done)|(rw[hP,hF];rfl)),by rw[hP];exact Aw.zero _ _⟩,H.k⟩))
 replace F:=(((((F.nil.cons (F.g 6 _ rfl)).cons (F.g 5 _ rfl)).cons (F.g 4 _ rfl)).cons (F.g 1 _ rfl)).cons (F.g 0 _ rfl))
 refine wp_skip (hK4 _ _ ?_);refine wp_seq_k (fun K9 hK9=>?_);have hq:=form_2 hb7;have hq2:=hq.2.1;refine gx_region ?_
 iterate 4 (refine zd ?_;intro A F)
 obtain ⟨a5,c5,hsl,hr5,hn5⟩:=slice_drop (hr.keptNo H.k) hn hc hd.head.toNat (by omega);rw[Int.toNat_of_nonneg hh.1]at hsl;refine hz_do (v:=(.slice a5 ((l.drop hd.head.toNat).length) c5)) F rfl (ex_slice rfl (F.e rfl) (congrArg some (F.e rfl)) rfl rfl hsl) ?_;intro A F;refine hz_call (R:=fun vv ww=>∃ r:Nat,vv=.pointer (some ⟨r,0,none⟩)∧w.heap.size≤r∧Rdr ww r (l.drop hd.head.toNat) 0) F H rfl (ex_call rfl rfl (gx_l1 (F.e rfl) gx_l0) fn_74) ((read_any a5 c5 (l.drop hd.head.toNat) _ hr5 hn5 (by rw[List.length_drop];omega)).mono fun e9 ww ⟨r9,h91,h92,h93,h94⟩=>⟨_,h91,⟨r9,rfl,Nat.le_trans H.size h92,h93⟩,h94⟩) ?_;clear F H A;intro vv W A hR hk H F;obtain ⟨r,rfl,hr0,hR0⟩:=hR;clear hk;obtain ⟨S0,hS0⟩:∃ S0:Ts,S0=⟨l.drop hd.head.toNat,0,false⟩:=⟨_,rfl⟩
 have hZ:Rk w (fun _=>True) r S0 _:=⟨by rw[hS0];show (l.drop hd.head.toNat).length≤100000;exact (by rw[List.length_drop];omega),by rw[hS0];exact hR0,H.k.mono (fun _ _ f=>f.elim)⟩
 clear hR0;have hS0l:S0.l.length≤(l.drop hd.head.toNat).length:=by rw[hS0];exact Nat.le_refl _
 refine hz_do (v:=(.agg #[(.int .i64 v),(.pointer (some ⟨r,0,none⟩)),(.bool false)])) F rfl (ex_build rfl (gx_p1 (F.e rfl) (gx_p1 (F.e rfl) gx_p0)) (by kernel_rfl)) ?_;intro A F;refine hz_new (c:=#[(.int .i64 0),(.pointer none),(.bool false)]) (t:=127) F H rfl (ex_alloc rfl (al_127 _)) ?_;clear F A;intro t W A hk hN H9 F;clear H;have H:=H9;clear H9;have hN_hZ_t:=Nat.le_trans hZ.k.size hN;replace hZ:=hZ.no hk;clear hk hN;obtain ⟨W9,hr,hB,hk⟩:=gx_storeAgg (P:=Tryz.prog) (S:=127) (c:=#[(.int .i64 v),(.pointer (some ⟨r,0,none⟩)),(.bool false)]) _ (H.b.at_ (j:=0) rfl).1 (gs_127 _) rfl (by simp[Value.oneCell']);replace hZ:=hZ.st (H.b.at_ (j:=0) rfl).1 (ne9 rfl) (ne9 rfl) (.inr trivial) hk;refine hz_st (ex_store rfl (F.e rfl) (F.e rfl) hr) ?_;clear hr;replace H:Hp _ _ [_,_,_]:=Hp.turn [] H hk hB;clear hk hB;refine wpList_nil (hK9 _ _ ?_);refine wp_seq_k (fun K11 hK11=>gx_region ?_);refine hz_do F rfl (ex_load rfl (F.e rfl) (gl_agg (#[(.int .i64 hd.kind),(.int .u8 ((hd.flags:Int))),(.int .i64 hd.head),(.int .i64 ((hd.rest:Int)))]) rfl (ga_57 _) (gs_57 _) (fun i=>H.cs 1 rfl i))) ?_;intro A F;have hSb:S0.b=false:=(by rw[hS0])
 have hl4:=(H.b.at_ (j:=2) rfl).1.lt;have hs9:=H.size;obtain ⟨htb,ht0⟩:=H.b.at_ (j:=0) rfl;refine hz_callX (fun (x:Ts × Pk × Sl)=>[⟨t,127,#[(.int .i64 v),(.pointer (some ⟨r,0,none⟩)),(.bool x.1.b)]⟩,⟨hb,57,#[(.int .i64 hd.kind),(.int .u8 ((hd.flags:Int))),(.int .i64 hd.head),(.int .i64 ((hd.rest:Int)))]⟩,⟨q4,33,zeroPk⟩]) (fun x=>FdP _ v t r (fieldsK v hd.kind hd.flags S0) x.1 x.2.1 x.2.2) F rfl (ex_call rfl rfl (gx_l1 (F.e rfl) (gx_l1 (F.e rfl) gx_l0)) fn_75) (fields_any9 w _ t r v S0 ⟨H.k,(show Blk _ t 127 #[.int .i64 v,.pointer (some ⟨r,0,none⟩),.bool S0.b] from (by rw[hSb];exact htb)),ht0,by simp,trivial⟩ hr0 hZ.r hZ.n hd.kind hd.flags hd.head (hd.rest:Int) (by omega) hT) (fun x9 _ _ h=>Hp.re H (h.z.k) (ge2 hr0 ht0) ⟨⟨rfl,fun _=>h.tb⟩,⟨kP2 (h.z.k) hZ.r.blk (ne9 rfl) htb (ne9 rfl),⟨kP2 (h.z.k) hZ.r.blk (ne9 rfl) htb (ne9 rfl),trivial⟩⟩⟩) ?_;clear F H A;intro x9 vv W A hR H F;obtain ⟨S12,P12,s12⟩:=x9;replace hR:FdP _ v t r (fieldsK v hd.kind hd.flags S0) S12 P12 s12 vv W:=hR;obtain ⟨rfl,hS12,hP12,hZ9,-,hAt,hsc,hlo⟩:=hR
 try dsimp only at H
 replace hZ:=hZ.step hZ9 (fun _ _=>trivial);clear hZ9;clear htb ht0;obtain ⟨w9,KA,hA,hb4⟩:∃ w1,Kept No w1 W∧Aw _ P12 s12 w1∧Blk w1 q4 33 zeroPk:=⟨W,Kept.refl No W,⟨hAt,hsc,hlo⟩,(H.b.at_ (j:=2) rfl).1⟩;clear hAt hsc hlo;refine hz_new (c:=zeroPk) (t:=33) F H rfl (ex_alloc rfl (al_33 _)) ?_;clear F A;intro p9 W A hk hN H9 F;clear H;have H:=H9;clear H9;have hN_hZ_p9:=Nat.le_trans hZ.k.size hN;have hN_KA_p9:=Nat.le_trans KA.size hN;replace hZ:=hZ.no hk;replace KA:=KA.trans hk;clear hk hN;obtain ⟨W9,hr,hB,hk⟩:=gx_storeAgg (P:=Tryz.prog) (S:=33) (c:=(Pk.cells P12 s12)) _ (H.b.at_ (j:=0) rfl).1 (gs_33 _) rfl (pk_one _ _);replace hZ:=hZ.st (H.b.at_ (j:=0) rfl).1 (ne9 rfl) (ne9 rfl) (.inr trivial) hk;refine hz_st (ex_store rfl (F.e rfl) (F.e rfl) hr) ?_;clear hr;replace H:Hp _ _ [_,_,_,_]:=Hp.turn [] H hk hB;replace KA:=KA.then hk (fun i9 hi9 e9=>by have e9:i9=p9:=e9;have:=hN_KA_p9;omega);clear hk hB;refine wpList_nil (hK11 _ _ ?_);refine wp_seq_k (fun K13 hK13=>?_);refine wp_seq_k (fun K14 hK14=>gx_region ?_);have htb9:=(H.b.at_ (j:=1) rfl)
 refine hz_callk F H rfl (ex_call rfl rfl (gx_l1 (F.e rfl) gx_l0) fn_76) (ok_any w _ t r v S12 ⟨H.k,htb9.1,htb9.2,by simp,trivial⟩ hr0 hZ.r hZ.n) ?_;clear F H A;intro W A hk H F;replace hZ:=hZ.no hk;replace KA:=KA.trans hk;clear hk
 iterate 2 (refine zd ?_;intro A F)
 iterate 2 (refine zg ?_;intro A F)
 refine hz_callg F H rfl (hw_f F rfl rfl rfl) (fun hG=>(ex_call rfl rfl (gx_l1 (F.o rfl hG) gx_l0) fn_77)) (fun hG=>kLeft hZ) ?_;clear F H A;intro W A hk H F;replace hZ:=hZ.no hk;replace KA:=KA.trans hk;clear hk;refine zgb (rn_neqN (i:=S12.l.length) (j:=0)) ?_;intro A F;refine hz_do F rfl (ex_pickO rfl (F.e rfl) (fun hx=>(F.o rfl (gnt hx))) rfl) ?_;intro A F;refine wpList_nil (hK14 _ _ ?_);refine zc (fun hb17=>?_) (fun hb17=>?_)
 ·skip
  replace F:=(((F.nil.cons (F.g 9 _ rfl)).cons (F.g 5 _ rfl)).cons (F.g 4 _ rfl))
  refine wp_seq_k (fun K18 hK18=>gx_region ?_);refine hz_do (v:=(Pk.val ((zk 0)) ts)) F rfl (ex_build rfl gx_p0 (by kernel_rfl)) ?_;intro A F;obtain ⟨W9,hr,hB,hk⟩:=gx_storeAgg (P:=Tryz.prog) (S:=33) (c:=(Pk.cells ((zk 0)) ts)) _ (H.b.at_ (j:=3) rfl).1 (gs_33 _) rfl (pk_one _ _);refine hz_st (ex_store rfl (F.e rfl) (F.e rfl) hr) ?_;clear hr;replace H:Hp _ _ [_,_,_,_]:=Hp.turn [_,_,_] H hk hB;clear hk hB;refine zd ?_;intro A F;refine wpList_nil (hK18 _ _ ?_);refine gx_ret ?_;refine (show bodyPost _ Tryz.f26 RR Exit.ret _ _ from ?_);exact bodyPost_ret (gx_resc2 rfl (F.g 4 _ rfl) (F.g 5 _ rfl) (gl_agg ((Pk.cells ((zk 0)) ts)) rfl (ga_33 _) (gs_33 _) (fun i=>H.cs 3 rfl i))) F.d ((by have hF:=form_3 (v:=v) (K:=fieldsK v hd.kind hd.flags S0) he (by rw[hS0]) (by rw[← hS12];exact hb17);have hP:=formP_no hF;exact ⟨_,rfl,⟨ts,(by first|(rw[hP,hF];done)|(rw[hP,hF];rfl)),by rw[hP];exact Aw.zero _ _⟩,H.k⟩))
 replace F:=(((F.nil.cons (F.g 9 _ rfl)).cons (F.g 5 _ rfl)).cons (F.g 4 _ rfl))
 refine wp_skip (hK13 _ _ ?_);refine wp_seq_k (fun K19 hK19=>gx_region ?_);refine hz_do F rfl (ex_load rfl (F.e rfl) (gl_agg ((Pk.cells P12 s12)) rfl (ga_33 _) (gs_33 _) (fun i=>H.cs 0 rfl i))) ?_;intro A F;obtain ⟨W9,hr,hB,hk⟩:=gx_storeAgg (P:=Tryz.prog) (S:=33) (c:=(Pk.cells P12 s12)) _ (H.b.at_ (j:=3) rfl).1 (gs_33 _) rfl (pk_one _ _);refine hz_st (ex_store rfl (F.e rfl) (F.e rfl) hr) ?_;clear hr;replace H:Hp _ _ [_,_,_,_]:=Hp.turn [_,_,_] H hk hB;replace KA:=kept_to KA hk;clear hk hB;refine zd ?_;intro A F;refine wpList_nil (hK19 _ _ ?_);refine gx_ret ?_;refine (show bodyPost _ Tryz.f26 RR Exit.ret _ _ from ?_);exact bodyPost_ret (gx_resc2 rfl (F.g 4 _ rfl) (F.g 5 _ rfl) (gl_agg ((Pk.cells P12 s12)) rfl (ga_33 _) (gs_33 _) (fun i=>H.cs 3 rfl i))) F.d ((by have hF:=form_4 (v:=v) (K:=fieldsK v hd.kind hd.flags S0) he hq (by rw[hS0]) (by rw[← hS12];exact hb17);rw[← hP12]at hF;exact ⟨_,rfl,⟨s12,(by first|(rw[hF.1,hF.2];done)|(rw[hF.1,hF.2];rfl)),by rw[hF.2];exact hA.fin KA hb4 (nuPk (zk 0) ts) hl4 hs9⟩,H.k⟩))
set_option maxHeartbeats 8000000 in
theorem decode_any9 (v:Int) (a:Option Addr) (c:Nat) (l:List UInt8) (w:World) (hr:Row w a (B8 l)) (hn:a=none→l.length=0∧c=0) (hc:l.length≤c) (hl:l.length≤100000) (hT:Tabs w) :
  Calls Tryz.prog 24 #[.int .i64 v,.slice a l.length c] w fun e w'=>∃ u,e=.returned u∧DecR w.heap.size v l u w'∧Kept No w w':=by
 let RR:Ending→World→Prop:=fun e w'=>∃ u,e=.returned u∧DecR w.heap.size v l u w'∧Kept No w w'
 go_enter Tryz.func24,Tryz.ntmps24
 generalize hA:({ tmps:=_,defers:=[] }:Act)=A;have F:Fr A 27 [(1,(.slice a l.length c)),(0,(.int .i64 v))]:=by rw[← hA];exact (Fr.cons (i:=1) (v:=(.slice a l.length c)) (Fr.cons (i:=0) (v:=(.int .i64 v)) (Fr.nil0 rfl rfl) rfl) rfl)
 clear hA;have H:=Hp.start w;refine wp_seq_k (fun K1 hK1=>gx_region ?_);refine hz_new (c:=zeroPk) (t:=33) F H rfl (ex_alloc rfl (al_33 _)) ?_;clear F A;intro q4 W A hk hN H9 F;clear H;have H:=H9;clear H9;clear hk hN;refine zd ?_;intro A F;refine wpList_nil (hK1 _ _ ?_);refine wp_seq_k (fun K2 hK2=>?_);refine wp_seq_k (fun K3 hK3=>gx_region ?_);refine zd ?_;intro A F;refine hz_callk F H rfl (ex_call rfl rfl (gx_l1 (F.e rfl) gx_l0) fn_72) (exists_any9 v _) ?_;clear F H A;intro W A hk H F;clear hk;refine zd ?_;intro A F;refine wpList_nil (hK3 _ _ ?_);refine zc (fun hb5=>?_) (fun hb5=>?_)
 ·skip
  refine wp_seq_k (fun K6 hK6=>gx_region ?_);refine hz_do (v:=(Pk.val ((zk 0)) ts)) F rfl (ex_build rfl gx_p0 (by kernel_rfl)) ?_;intro A F;obtain ⟨W9,hr,hB,hk⟩:=gx_storeAgg (P:=Tryz.prog) (S:=33) (c:=(Pk.cells ((zk 0)) ts)) _ (H.b.at_ (j:=0) rfl).1 (gs_33 _) rfl (pk_one _ _);refine hz_st (ex_store rfl (F.e rfl) (F.e rfl) hr) ?_;clear hr;replace H:Hp _ _ [_]:=Hp.turn [] H hk hB;clear hk hB;refine zd ?_;intro A F;refine wpList_nil (hK6 _ _ ?_);refine gx_ret ?_;refine (show bodyPost _ Tryz.f24 RR Exit.ret _ _ from ?_);exact bodyPost_ret (gx_resc2 rfl (F.g 4 _ rfl) (F.g 5 _ rfl) (gl_agg ((Pk.cells ((zk 0)) ts)) rfl (ga_33 _) (gs_33 _) (fun i=>H.cs 0 rfl i))) F.d ((by have hD:=dec_arg (l:=l) hb5;exact ⟨_,rfl,⟨ts,(by first|(rw[hD.1,hD.2];done)|(rw[hD.1,hD.2];rfl)),by rw[hD.2];exact Aw.zero _ _⟩,H.k⟩))
 refine wp_skip (hK2 _ _ ?_);refine wp_seq_k (fun K7 hK7=>gx_region ?_)
 iterate 2 (refine zd ?_;intro A F)
 have hl4:=(H.b.at_ (j:=0) rfl).1.lt;have hs9:=H.size;refine hz_call (R:=FormR W.heap.size v l) F H rfl (ex_call rfl rfl (gx_l1 (F.e rfl) (gx_l1 (F.e rfl) gx_l0)) fn_26) (form_any9 v a c l _ (hr.keptNo H.k) hn hc hl (hT.kept H.k)) ?_;clear F H A;intro vv W A hR hk H F;obtain ⟨s8,rfl,hA⟩:=hR;clear hk;obtain ⟨w9,KA,hA,hb4⟩:∃ w1,Kept No w1 W∧Aw _ (formP v l) s8 w1∧Blk w1 q4 33 zeroPk:=⟨W,Kept.refl No W,hA,(H.b.at_ (j:=0) rfl).1⟩
 iterate 3 (refine zd ?_;intro A F)
 refine hz_new (c:=zeroPk) (t:=33) F H rfl (ex_alloc rfl (al_33 _)) ?_;clear F A;intro p6 W A hk hN H9 F;clear H;have H:=H9;clear H9;have hN_KA_p6:=Nat.le_trans KA.size hN;replace KA:=KA.trans hk;clear hk hN;obtain ⟨W9,hr,hB,hk⟩:=gx_storeAgg (P:=Tryz.prog) (S:=33) (c:=(Pk.cells ((formP v l)) s8)) _ (H.b.at_ (j:=0) rfl).1 (gs_33 _) rfl (pk_one _ _);refine hz_st (ex_store rfl (F.e rfl) (F.e rfl) hr) ?_;clear hr;replace H:Hp _ _ [_,_]:=Hp.turn [] H hk hB;replace KA:=KA.then hk (fun i9 hi9 e9=>by have e9:i9=p6:=e9;have:=hN_KA_p6;omega);clear hk hB;refine zd ?_;intro A F;refine wpList_nil (hK7 _ _ ?_);refine wp_seq_k (fun K9 hK9=>?_);refine wp_seq_k (fun K10 hK10=>gx_region ?_)
 iterate 2 (refine zd ?_;intro A F)
 refine wpList_nil (hK10 _ _ ?_);refine zc (fun hb11=>?_) (fun hb11=>?_)
 ·skip
  refine wp_seq_k (fun K12 hK12=>gx_region ?_);refine hz_do (v:=(Pk.val ((zk 0)) ts)) F rfl (ex_build rfl gx_p0 (by kernel_rfl)) ?_;intro A F;obtain ⟨W9,hr,hB,hk⟩:=gx_storeAgg (P:=Tryz.prog) (S:=33) (c:=(Pk.cells ((zk 0)) ts)) _ (H.b.at_ (j:=1) rfl).1 (gs_33 _) rfl (pk_one _ _);refine hz_st (ex_store rfl (F.e rfl) (F.e rfl) hr) ?_;clear hr;replace H:Hp _ _ [_,_]:=Hp.turn [_] H hk hB;clear hk hB;refine zd ?_;intro A F;refine wpList_nil (hK12 _ _ ?_);refine gx_ret ?_;refine (show bodyPost _ Tryz.f24 RR Exit.ret _ _ from ?_);exact bodyPost_ret (gx_resc2 rfl (F.g 4 _ rfl) (F.g 5 _ rfl) (gl_agg ((Pk.cells ((zk 0)) ts)) rfl (ga_33 _) (gs_33 _) (fun i=>H.cs 1 rfl i))) F.d ((by have hD:=dec_form hb5 hb11;exact ⟨_,rfl,⟨ts,(by first|(rw[hD.1,hD.2];done)|(rw[hD.1,hD.2];rfl)),by rw[hD.2];exact Aw.zero _ _⟩,H.k⟩))
 refine wp_skip (hK9 _ _ ?_);refine wp_seq_k (fun K13 hK13=>?_);refine wp_seq_k (fun K14 hK14=>gx_region ?_);refine zd ?_;intro A F;refine hz_do F rfl (ex_load rfl (F.e rfl) (gl_agg ((Pk.cells ((formP v l)) s8)) rfl (ga_33 _) (gs_33 _) (fun i=>H.cs 0 rfl i))) ?_;intro A F;refine hz_callk F H rfl (ex_call rfl rfl (gx_l1 (F.e rfl) (gx_l1 (F.e rfl) gx_l0)) fn_57) (pkRight_any v (formP v l) s8 _ (hA.at_.kept KA) (ok9_form hl).fit (hT.kept H.k)) ?_;clear F H A;intro W A hk H F;replace KA:=KA.trans hk;clear hk;refine zd ?_;intro A F;refine wpList_nil (hK14 _ _ ?_);refine zc (fun hb16=>?_) (fun hb16=>?_)
 ·skip
  replace F:=(((F.nil.cons (F.g 6 _ rfl)).cons (F.g 5 _ rfl)).cons (F.g 4 _ rfl))
  refine wp_seq_k (fun K17 hK17=>gx_region ?_);refine hz_do (v:=(Pk.val ((zk 0)) ts)) F rfl (ex_build rfl gx_p0 (by kernel_rfl)) ?_;intro A F;obtain ⟨W9,hr,hB,hk⟩:=gx_storeAgg (P:=Tryz.prog) (S:=33) (c:=(Pk.cells ((zk 0)) ts)) _ (H.b.at_ (j:=1) rfl).1 (gs_33 _) rfl (pk_one _ _);refine hz_st (ex_store rfl (F.e rfl) (F.e rfl) hr) ?_;clear hr;replace H:Hp _ _ [_,_]:=Hp.turn [_] H hk hB;clear hk hB;refine zd ?_;intro A F;refine wpList_nil (hK17 _ _ ?_);refine gx_ret ?_;refine (show bodyPost _ Tryz.f24 RR Exit.ret _ _ from ?_);exact bodyPost_ret (gx_resc2 rfl (F.g 4 _ rfl) (F.g 5 _ rfl) (gl_agg ((Pk.cells ((zk 0)) ts)) rfl (ga_33 _) (gs_33 _) (fun i=>H.cs 1 rfl i))) F.d ((by have hD:=dec_right hb5 hb11 hb16;exact ⟨_,rfl,⟨ts,(by first|(rw[hD.1,hD.2];done)|(rw[hD.1,hD.2];rfl)),by rw[hD.2];exact Aw.zero _ _⟩,H.k⟩))
 replace F:=(((F.nil.cons (F.g 6 _ rfl)).cons (F.g 5 _ rfl)).cons (F.g 4 _ rfl))
 refine wp_skip (hK13 _ _ ?_);refine wp_seq_k (fun K18 hK18=>gx_region ?_);refine hz_do F rfl (ex_load rfl (F.e rfl) (gl_agg ((Pk.cells ((formP v l)) s8)) rfl (ga_33 _) (gs_33 _) (fun i=>H.cs 0 rfl i))) ?_;intro A F;obtain ⟨W9,hr,hB,hk⟩:=gx_storeAgg (P:=Tryz.prog) (S:=33) (c:=(Pk.cells ((formP v l)) s8)) _ (H.b.at_ (j:=1) rfl).1 (gs_33 _) rfl (pk_one _ _);refine hz_st (ex_store rfl (F.e rfl) (F.e rfl) hr) ?_;clear hr;replace H:Hp _ _ [_,_]:=Hp.turn [_] H hk hB;replace KA:=kept_to KA hk;clear hk hB;refine zd ?_;intro A F;refine wpList_nil (hK18 _ _ ?_);refine gx_ret ?_;refine (show bodyPost _ Tryz.f24 RR Exit.ret _ _ from ?_);exact bodyPost_ret (gx_resc2 rfl (F.g 4 _ rfl) (F.g 5 _ rfl) (gl_agg ((Pk.cells ((formP v l)) s8)) rfl (ga_33 _) (gs_33 _) (fun i=>H.cs 1 rfl i))) F.d ((by have hD:=dec_ok hb5 hb11 hb16;exact ⟨_,rfl,⟨s8,(by first|(rw[hD.1,hD.2];done)|(rw[hD.1,hD.2];rfl)),by rw[hD.2];exact hA.fin KA hb4 (nuPk (zk 0) ts) hl4 hs9⟩,H.k⟩))
open Go.RowKit
set_option linter.unusedVariables false
set_option linter.unusedSimpArgs false
set_option maxRecDepth 100000
theorem fa_135_1 (B o:Nat) (w:World):(Instr.fieldAt 135 (.pointer (some ⟨B,o,none⟩)) 1).run Tryz.prog w=.ok (.pointer (some ⟨B,o+1,none⟩)) w:=by
 have u:=Tryz.underlying135
 go_simp
instance:FA 135 1 1:=⟨fa_135_1⟩
theorem fa_135_2 (B o:Nat) (w:World):(Instr.fieldAt 135 (.pointer (some ⟨B,o,none⟩)) 2).run Tryz.prog w=.ok (.pointer (some ⟨B,o+2,none⟩)) w:=by
 have u:=Tryz.underlying135
 go_simp
instance:FA 135 2 2:=⟨fa_135_2⟩
theorem fn_24 (args:Array Value) (w:World):(callFunc 24 args).run Tryz.prog w=.ok (.enter 24 args) w:=gx_fn Tryz.func24 (by kernel_rfl) rfl args w
def dq7:Pk:={ zk 4 with id:=7 }
theorem conv_const9 {w0 w:World} {M:List Bk} (H:Hp w0 w M) (qs:Array (Nat × Value)) (C:Array Value) (l:List UInt8) (n:Nat) (hB:∀ w,(Instr.buildSlice 25 n qs).run Tryz.prog w=.ok (.slice (some ⟨w.heap.size,0,none⟩) n n) (w.alloc (.cells C 5))) (hC:C.toList=B8 l):∃ b w1 w',(Instr.buildSlice 25 n qs).run Tryz.prog w=.ok (.slice (some ⟨b,0,none⟩) n n) w1∧(convert 25 25 (.slice (some ⟨b,0,none⟩) n n)).run Tryz.prog w1=.ok (.slice (some ⟨b,0,none⟩) n n) w'∧Row w' (some ⟨b,0,none⟩) (B8 l)∧Kept No w w':=by
 refine ⟨_,_,_,hB w,Lib.run_convert_bytes_const (P:=Tryz.prog) w 25 5 C n n Tryz.underlying25 Tryz.underlying5,?_,?_⟩
 ·refine .inr ⟨w.heap.size,0,rfl,by simp[World.alloc,-World.alloc_eq],fun j u hj=>?_⟩
  have h1:(w.alloc (.cells C 5 (C.size,C.size+1))).heap[w.heap.size]?=some (.cells C 5 (C.size,C.size+1)):=by
   show (w.heap.push _)[w.heap.size]?=_;simp
  rw[← hC]at hj;unfold World.cell?;rw[h1];simpa using hj
 ·exact ⟨rfl,rfl,rfl,by simp[World.alloc,-World.alloc_eq],fun k hk _=>by
   show (w.heap.push _)[k]?=_;rw[Array.getElem?_push,if_neg (by omega)]⟩
end Go.Proofs.YtdeecgmihfakgaaGreatDoor
