import Derived.Test.YtnehnjklgglliaaGreatDoorYG1
import Derived.Test.YtnehnjklgglliaaGreatDoorYG2
import Derived.Test.YtnehnjklgglliaaGreatDoorYFT
import Derived.Test.YtnehnjklgglliaaGreatDoorYFK
import Derived.Lib.SlBytesConst
namespace Go.Proofs.YtnehnjklgglliaaGreatDoor
set_option maxHeartbeats 8000000
open Go.RowKit
set_option linter.unusedVariables false
set_option linter.unusedSimpArgs false
set_option maxRecDepth 100000
namespace Ts
def var (s:Ts):Nat:=(rv 4 0 0 s.l s.e).1
def rdV (s:Ts):Ts:=⟨(rv 4 0 0 s.l s.e).2.1,(rv 4 0 0 s.l s.e).2.2,s.b⟩
end Ts
theorem jCo (S:Ts):S.bin.size≤65535:=by
 have h1:=xL (num (jL 2 S.l S.e)) (jX 2 S.l S.e) (jT 2 S.l S.e);have h2:=j23 (jL 2 S.l S.e);have h3:=xL 2 S.l S.e;have h4:256 ^ (jL 2 S.l S.e).length≤256 ^ 2:=Nat.pow_le_pow_right (by decide) (by omega);have h5:S.bin.size=(jh S.l S.e).length:=by unfold Ts.bin;rw[vo]
 rw[h5];unfold jh;omega
theorem xr (S:Ts):S.num 2<65536:=by
 have h1:=xL 2 S.l S.e;have h2:=j23 (jL 2 S.l S.e);have h4:256 ^ (jL 2 S.l S.e).length≤256 ^ 2:=Nat.pow_le_pow_right (by decide) (by omega);unfold Ts.num;omega
structure Lok (L:List Pr):Prop where
 n:L.length≤100000
 w:∀ x∈L,x.wf'∧x.a.size≤9223372036854∧x.b.size≤9223372036854
 s:j3w L≤100001
theorem jHw:j3w []=1:=by decide +kernel
theorem j2p:Lok []:=⟨Nat.zero_le _,by simp,by rw[jHw];omega⟩
theorem jHx {L:List Pr} (h:∀ p∈L,p.wf'):j3w L=(jEm [] L).length:=by
 unfold j3w jEm;cases hn:xJ L 0 with
 | none=>rfl
 | some n =>
  have:=(j22 L 0 n h hn (by omega)).2.1
  simp[j1u];omega
theorem jF3 {l:List UInt8} {e:Int} (he:e≠0):(qd l e).1=[]:=by
 have h1:jT 1 l e=e:=if_neg he
 have h2:qu l e≠0:=by
  unfold qu;rw[j4k (by rw[h1];exact he)];dsimp only;rw[h1,show jT _ _ e=e from if_neg he];exact he
 unfold qd;rw[if_neg h2]
theorem jCc (l:List UInt8) (e:Int):(qd l e).1.length≤l.length:=by
 have h1:(qC (jx l e)).1.length≤(jx l e).length:=j0t _ _;have h2:=j1e l e;unfold qd
 split
 ·split
  ·show (jZ _).length≤_
   rw[ji];omega
  ·exact Nat.zero_le _
 ·exact Nat.zero_le _
theorem jF4 {l:List UInt8} (e:Int) (h:l.length≤100000):Lok (qd l e).1:=by
 by_cases he:e=0
 ·subst he
  cases hb:(qd l 0).2 with
  | true =>
   obtain ⟨hw,hs,_⟩:=jCd h hb;exact ⟨Nat.le_trans (jCc l 0) h,λx hx=>⟨hw x hx,(hw x hx).ha,(hw x hx).hb⟩,by rw[jHx hw];omega⟩
  | false =>
   have:(qd l 0).1=[]:=by
    revert hb;unfold qd
    split
    ·split
     ·intro h;cases h
     ·intro _;rfl
    ·intro _;rfl
   rw[this];exact j2p
 ·rw[jF3 he];exact j2p
theorem j0a {S:Ts} (v:Int) (h:S.l.length≤100000):Lok (S.sec v):=by
 unfold Ts.sec
 split
 ·exact j2p
 ·exact jF4 _ h
structure Ok9 (p:Pk):Prop where
 client:p.client.size≤100000
 willTopic:p.willTopic.size≤100000
 willLoad:p.willLoad.size≤100000
 user:p.user.size≤100000
 pass:p.pass.size≤100000
 topic:p.topic.size≤100000
 load:p.load.size≤100000
 nf:p.filters.length≤100000
 nc:p.codes.length≤100000
 props:Lok p.props
 wprops:Lok p.willProps
 tf:∀ f∈p.filters,f.opt<256∧f.text.size≤100000
 qos:p.qos<256
 id:p.id<65536
 keep:p.keep<65536
 wq:p.willQoS<256
 code:p.code<256
theorem Ok9.fit {p:Pk} (h:Ok9 p):Fit p:=by
 have h1:=h.client;have h2:=h.willTopic;have h3:=h.willLoad;have h4:=h.user;have h5:=h.pass;have h6:=h.topic;have h7:=h.load;have h8:=h.nf;have h9:=h.nc;have h10:=h.props.n;have h11:=h.wprops.n
 exact ⟨⟨h11,h8,h9,h10⟩,⟨λx hx=>(h.wprops.w x hx).1,λx hx=>(h.props.w x hx).1⟩,
  ⟨by omega,by omega,by omega,by omega,by omega,by omega,by omega,by omega,by omega,by omega,by omega,λf hf=>by have:=(h.tf f hf).2;omega,λx hx=>by have:=(h.props.w x hx).2;omega,λx hx=>by have:=(h.wprops.w x hx).2;omega⟩,
  h.qos,h.id,h.keep,h.wq,h.code,λf hf=>(h.tf f hf).1⟩
theorem j5p (k:Int):Ok9 (zk k):=⟨Nat.zero_le _,Nat.zero_le _,Nat.zero_le _,Nat.zero_le _,Nat.zero_le _,Nat.zero_le _,Nat.zero_le _,Nat.zero_le _,Nat.zero_le _,j2p,j2p,(by intro f hf;cases hf),(by decide:0<256),(by decide:0<65536),(by decide:0<65536),(by decide:0<256),(by decide:0<256)⟩
section
variable {p:Pk}
theorem Ok9.code9 (h:Ok9 p) {n:Nat} (hn:n<256):Ok9 {p with code:=n}:=⟨h.client,h.willTopic,h.willLoad,h.user,h.pass,h.topic,h.load,h.nf,h.nc,h.props,h.wprops,h.tf,h.qos,h.id,h.keep,h.wq,hn⟩
theorem Ok9.props9 (h:Ok9 p) {L:List Pr} (hL:Lok L):Ok9 {p with props:=L}:=⟨h.client,h.willTopic,h.willLoad,h.user,h.pass,h.topic,h.load,h.nf,h.nc,hL,h.wprops,h.tf,h.qos,h.id,h.keep,h.wq,h.code⟩
theorem Ok9.id9 (h:Ok9 p) {n:Nat} (hn:n<65536):Ok9 {p with id:=n}:=⟨h.client,h.willTopic,h.willLoad,h.user,h.pass,h.topic,h.load,h.nf,h.nc,h.props,h.wprops,h.tf,h.qos,hn,h.keep,h.wq,h.code⟩
theorem Ok9.user9 (h:Ok9 p) {b:Bool} {u:ByteArray} (hu:u.size≤100000):Ok9 {p with hasUser:=b,user:=u}:=⟨h.client,h.willTopic,h.willLoad,hu,h.pass,h.topic,h.load,h.nf,h.nc,h.props,h.wprops,h.tf,h.qos,h.id,h.keep,h.wq,h.code⟩
theorem Ok9.pass9 (h:Ok9 p) {b:Bool} {u:ByteArray} (hu:u.size≤100000):Ok9 {p with hasPass:=b,pass:=u}:=⟨h.client,h.willTopic,h.willLoad,h.user,hu,h.topic,h.load,h.nf,h.nc,h.props,h.wprops,h.tf,h.qos,h.id,h.keep,h.wq,h.code⟩
theorem Ok9.pres9 (h:Ok9 p) {b:Bool}:Ok9 {p with present:=b}:=⟨h.client,h.willTopic,h.willLoad,h.user,h.pass,h.topic,h.load,h.nf,h.nc,h.props,h.wprops,h.tf,h.qos,h.id,h.keep,h.wq,h.code⟩
theorem Ok9.uflag (h:Ok9 p) {b:Bool}:Ok9 {p with hasUser:=b}:=h.user9 h.user
theorem Ok9.pflag (h:Ok9 p) {b:Bool}:Ok9 {p with hasPass:=b}:=h.pass9 h.pass
theorem Ok9.will9 (h:Ok9 p) {b r:Bool} {q:Nat} {L:List Pr} {t u:ByteArray} (hq:q<256) (hL:Lok L) (ht:t.size≤100000) (hu:u.size≤100000):Ok9 {p with hasWill:=b,willQoS:=q,willRetain:=r,willProps:=L,willTopic:=t,willLoad:=u}:=⟨h.client,ht,hu,h.user,h.pass,h.topic,h.load,h.nf,h.nc,h.props,hL,h.tf,h.qos,h.id,h.keep,hq,h.code⟩
end
theorem jB4 (S:Ts):S.bin.size≤100000:=by have:=jCo S;omega
theorem rdN {S:Ts} (n:Int) (h:S.l.length≤100000):(S.rd n).l.length≤100000:=Nat.le_trans (j7f _ _) h
theorem jPh {S:Ts} (h:S.l.length≤100000):S.rdB.l.length≤100000:=Nat.le_trans (j8o _) h
theorem jK4 {S:Ts} (v:Int) (h:S.l.length≤100000):(S.rdS v).l.length≤100000:=Nat.le_trans (jHk _ _) h
theorem j7b {v:Int} {p:Pk} {S:Ts} (h:Ok9 p) (hn:S.l.length≤100000):Ok9 (qg v p S).1:=by
 unfold qg
 split
 ·exact h
 ·split
  ·exact h.code9 (ql S)
  ·exact (h.code9 (ql S)).props9 (j0a v (rdN 1 hn))
theorem jHg {v:Int} {f:Nat} {p:Pk} {S:Ts} (h:Ok9 p) (hn:S.l.length≤100000):Ok9 (z8 v f p S).1:=by
 unfold z8
 split
 ·exact h.will9 (Nat.lt_of_le_of_lt Nat.and_le_right (by decide)) (j0a v hn) (jB4 _) (jB4 _)
 ·exact h.will9 h.wq h.wprops h.willTopic h.willLoad
theorem jHf {f:Nat} {p:Pk} {S:Ts} (h:Ok9 p):Ok9 (zU f p S).1:=by
 unfold zU
 split
 ·exact h.user9 (jB4 _)
 ·exact h.uflag
theorem jHe {f:Nat} {p:Pk} {S:Ts} (h:Ok9 p):Ok9 (j2u f p S).1:=by
 unfold j2u
 split
 ·exact h.pass9 (jB4 _)
 ·exact h.pflag
theorem jIn (v:Int) (S:Ts):(jE1 v S).l.length≤S.l.length:=Nat.le_trans (j7f 1 (S.rdB.need (decide (S.bin=jEf)))) (j8o S)
theorem jHd {v:Int} {S:Ts} (hn:S.l.length≤100000):Ok9 (zq v S).1:=by
 have h2:(jE1 v S).l.length≤100000:=Nat.le_trans (jIn v S) hn;unfold zq;dsimp only;generalize jE1 v S=s2 at h2;have h3:((s2.rd 1).need (decide (s2.num 1 &&& 1=0))).l.length≤100000:=rdN 1 h2;generalize (s2.rd 1).need (decide (s2.num 1 &&& 1=0))=s3 at h3 ⊢;refine jHe (jHf (jHg ?_ (jPh (jK4 v (rdN 2 h3)))));have z:=j5p 1;exact ⟨jB4 _,z.willTopic,z.willLoad,z.user,z.pass,z.topic,z.load,z.nf,z.nc,j0a v (rdN 2 h3),z.wprops,z.tf,z.qos,z.id,xr s3,z.wq,z.code⟩
theorem j85 (k:Int):∀ (n:Nat) (S:Ts),(qc k n S).1.length≤n∧∀ f∈(qc k n S).1,f.opt<256∧f.text.size≤100000
 | 0,S=>⟨Nat.zero_le _,by intro f hf;cases hf⟩
 | n+1,S=>by
  by_cases h:S.ok=true∧0<S.l.length
  ·rw[j9g h]
   have ih:=j85 k n (if k=8 then S.rdT.rd 1 else S.rdT);refine ⟨by simp only[List.length_cons];omega,λf hf=>?_⟩;rcases List.mem_cons.1 hf with rfl|hf
   ·refine ⟨?_,jB4 S⟩
    dsimp only
    split
    ·exact ql _
    ·decide
   ·exact ih.2 f hf
  ·rw[j4z h]
   exact ⟨Nat.zero_le _,by intro f hf;cases hf⟩
theorem jBk {v k:Int} {f:Nat} {S:Ts} (hn:S.l.length≤100000):Ok9 (qR v k f S).1:=by
 have z:=j5p;unfold qR
 split
 ·exact jHd hn
 split
 ·have h1:((S.rd 1).need (decide (S.num 1≤1))).l.length≤100000:=rdN 1 hn
  exact (((z 2).pres9 (b:=decide (S.num 1=1))).code9 (ql _)).props9 (j0a v (rdN 1 h1))
 split
 ·unfold j3t
  dsimp only;have h1:S.rdT.l.length≤100000:=jPh hn
  have h2:(if (f / 2 &&& 3)=0 then S.rdT else S.rdT.rd 2).l.length≤100000:=by
   split
   ·exact h1
   ·exact rdN 2 h1
  generalize (if (f / 2 &&& 3)=0 then S.rdT else S.rdT.rd 2)=s2 at h2 ⊢;have hl:(s2.rdS v).rest.size≤100000:=by unfold Ts.rest;rw[vo];exact jK4 v h2
  have z3:=z 3;refine ⟨z3.client,z3.willTopic,z3.willLoad,z3.user,z3.pass,jB4 S,hl,z3.nf,z3.nc,j0a v h2,z3.wprops,z3.tf,Nat.lt_of_le_of_lt Nat.and_le_right (by decide),?_,z3.keep,z3.wq,z3.code⟩;dsimp only
  split
  ·decide
  ·exact xr _
 split
 ·exact j7b ((z k).id9 (xr S)) (rdN 2 hn)
 split
 ·have h2:=jK4 v (rdN 2 hn)
  have hf:=j85 k ((S.rd 2).rdS v).l.length ((S.rd 2).rdS v);have zz:=z k;exact ⟨zz.client,zz.willTopic,zz.willLoad,zz.user,zz.pass,zz.topic,zz.load,Nat.le_trans hf.1 h2,zz.nc,j0a v (rdN 2 hn),zz.wprops,hf.2,zz.qos,xr S,zz.keep,zz.wq,zz.code⟩
 split
 ·have zz:=z k
  exact ⟨zz.client,zz.willTopic,zz.willLoad,zz.user,zz.pass,zz.topic,zz.load,zz.nf,jK4 v (rdN 2 hn),j0a v (rdN 2 hn),zz.wprops,zz.tf,zz.qos,xr S,zz.keep,zz.wq,zz.code⟩
 split
 ·exact j7b (z k) hn
 ·exact z k
theorem xd {v:Int} {l:List UInt8} (hn:l.length≤100000):Ok9 (qK v l):=by
 unfold qK
 split
 ·exact jBk (by simp only[List.length_drop];omega)
 ·exact j5p 0
theorem jIj (l:List UInt8) (n:Nat):B8 (l.take n)=(B8 l).take n:=by simp[B8,List.map_take]
theorem jIi (l:List UInt8) (n:Nat):B8 (l.drop n)=(B8 l).drop n:=by simp[B8,List.map_drop]
theorem sz8 (w:World):(Go.sizeOf (Tryz.prog.elem 22)).run Tryz.prog w=.ok 1 w:=by
 have e:Tryz.prog.elem 22=5:=by simp[Program.elem,Tryz.underlying22]
 rw[e];exact j9p w
theorem jKk:Tryz.prog.underlying 22=some (.slice (Tryz.prog.elem 22)):=by
 have e:Tryz.prog.elem 22=5:=by simp[Program.elem,Tryz.underlying22]
 rw[e];exact Tryz.underlying22
theorem j6c {w:World} {a:Option Addr} {l:List UInt8} {c:Nat} (hr:Row w a (B8 l)) (hn:a=none→l.length=0∧c=0) (hc:l.length≤c) (n:Nat):∃ a5 c5,(Instr.sliceAt 22 (.slice a l.length c) none (some (.int .i64 ((min l.length n:Nat):Int))) none).run Tryz.prog w=.ok (.slice a5 (l.take n).length c5) w∧Row w a5 (B8 (l.take n))∧(a5=none→(l.take n).length=0∧c5=0)∧(l.take n).length≤c5:=by
 refine ⟨(if c=0 then a else a.map (·.add 0)),c,?_,?_,?_,by rw[List.length_take];omega⟩
 ·rw[run_sliceAt_slice _ _ _ _ _ _ jKk,run_slice_h _ _ _ _ _ jKk .i64 _ (by omega) (by omega),sz8]
  simp only[Result.andThen,sliced,Int.toNat_natCast,List.length_take,Nat.zero_mul,Nat.sub_zero];rw[Nat.min_comm]
 ·have h:=(hr.take n).drop (k:=0) (cap:=c) (by simp[B8,List.length_take];omega)
  rw[jIj];simpa using h
 ·intro e
  have:a=none:=by
   revert e
   split
   ·exact id
   ·cases a<;>simp
  have:=hn this
  rw[List.length_take];omega
theorem j6b {w:World} {a:Option Addr} {l:List UInt8} {c:Nat} (hr:Row w a (B8 l)) (hn:a=none→l.length=0∧c=0) (hc:l.length≤c) (k:Nat) (hk:k≤l.length):∃ a5 c5,(Instr.sliceAt 22 (.slice a l.length c) (some (.int .i64 (k:Int))) none none).run Tryz.prog w=.ok (.slice a5 (l.drop k).length c5) w∧Row w a5 (B8 (l.drop k))∧(a5=none→(l.drop k).length=0∧c5=0):=by
 refine ⟨(if c=k then a else a.map (·.add k)),c - k,?_,?_,?_⟩
 ·rw[run_sliceAt_slice _ _ _ _ _ _ jKk,run_slice_l _ _ _ _ _ jKk .i64 _ (by omega) (by omega),sz8]
  simp only[Result.andThen,sliced,Int.toNat_natCast,List.length_drop,Nat.mul_one]
 ·have h:=hr.drop (k:=k) (cap:=c) (by simp[B8];omega)
  rw[jIi];exact h
 ·intro e
  have:a=none:=by
   revert e
   split
   ·exact id
   ·cases a<;>simp
  have:=hn this
  rw[List.length_drop];omega
theorem j9r (l:List UInt8):(qL l).flags<16:=by
 unfold qL
 split
 ·exact Nat.mod_lt _ (by decide)
 ·decide
theorem jDd (l:List UInt8):0≤(qL l).head∧(qL l).head≤5:=by
 unfold qL
 split
 ·have h1:=(j26 4 0 0 (jX 1 (l.take 5) 0) (jT 1 (l.take 5) 0)).length_le
  have h2:=zP 1 (l.take 5) 0;have h3:(l.take 5).length≤5:=by rw[List.length_take];omega
  unfold j0k;dsimp only;omega
 ·exact ⟨Int.le_refl _,by decide⟩
theorem jMe {v:Int} {l:List UInt8} {hd:Hd} (he:qL l=hd) (h:(((!decide (vK l=0))||(!decide ((l.length:Int)=hd.head+(hd.rest:Int))))||(!vX v hd))=true):qn v l=false:=by
 unfold qn;rw[he];generalize (decide (vK l=0))=A at *;generalize (decide ((l.length:Int)=hd.head+(hd.rest:Int)))=B at *;generalize vX v hd=C at *;revert h;cases A<;>cases B<;>cases C<;>simp
theorem jMf {v:Int} {l:List UInt8} {hd:Hd} (h:(((!decide (vK l=0))||(!decide ((l.length:Int)=hd.head+(hd.rest:Int))))||(!vX v hd))=false):vK l=0∧(l.length:Int)=hd.head+(hd.rest:Int)∧vX v hd=true:=by
 simpa [and_assoc] using h
theorem jGu {v:Int} {l:List UInt8} {hd:Hd} {K:Pk × Ts} (he:qL l=hd) (hK:qR v hd.kind hd.flags ⟨l.drop hd.head.toNat,0,false⟩=K) (h:((!K.2.ok)||(!decide (K.2.l.length=0)))=true):qn v l=false:=by
 unfold qn j71;rw[he,hK]
 have h1:(K.2.ok&&decide (K.2.l.length=0))=false:=by
  revert h;cases K.2.ok<;>simp
 rw[h1];simp
theorem jGv {v:Int} {l:List UInt8} {hd:Hd} {K:Pk × Ts} (he:qL l=hd) (h0:vK l=0∧(l.length:Int)=hd.head+(hd.rest:Int)∧vX v hd=true) (hK:qR v hd.kind hd.flags ⟨l.drop hd.head.toNat,0,false⟩=K) (h:((!K.2.ok)||(!decide (K.2.l.length=0)))=false):qn v l=true∧qK v l=K.1:=by
 have h1:(K.2.ok&&decide (K.2.l.length=0))=true:=by
  revert h;cases K.2.ok<;>simp
 have h2:qn v l=true:=by
  unfold qn j71;rw[he,hK,h1,decide_eq_true h0.1,decide_eq_true h0.2.1,h0.2.2]
  rfl
 refine ⟨h2,?_⟩;unfold qK;rw[if_pos h2];unfold j71;rw[he,hK]
theorem j0w {v:Int} {l:List UInt8} (h:qn v l=false):qK v l=zk 0:=if_neg (by rw[h];decide)
section
variable {v:Int} {l:List UInt8}
theorem or9 (h:(!(decide (v=4)||decide (v=5)))=false):v=4∨v=5:=by
 by_cases h4:v=4
 ·exact .inl h4
 ·by_cases h5:v=5
  ·exact .inr h5
  ·rw[decide_eq_false h4,decide_eq_false h5]at h;cases h
theorem jCs (h:(!(decide (v=4)||decide (v=5)))=true):j1n v l=1∧xk v l=zk 0:=by
 have h1:¬ (v=4∨v=5):=by simpa using h
 have e:j1n v l=1:=if_neg h1;exact ⟨e,if_neg (by rw[e];decide)⟩
theorem j9c (h:(!(decide (v=4)||decide (v=5)))=false) (h2:(!qn v l)=true):j1n v l=3∧xk v l=zk 0:=by
 have h1:v=4∨v=5:=or9 h;have e:j1n v l=3:=(if_pos h1).trans (if_neg (by simpa using h2));exact ⟨e,if_neg (by rw[e];decide)⟩
theorem j6y (h:(!(decide (v=4)||decide (v=5)))=false) (h2:(!qn v l)=false) (h3:(!zn v (qK v l))=true):j1n v l=4∧xk v l=zk 0:=by
 have h1:v=4∨v=5:=or9 h;have e:j1n v l=4:=(if_pos h1).trans ((if_pos (by simpa using h2)).trans (if_neg (by simpa using h3)));exact ⟨e,if_neg (by rw[e];decide)⟩
theorem jFq (h:(!(decide (v=4)||decide (v=5)))=false) (h2:(!qn v l)=false) (h3:(!zn v (qK v l))=false):j1n v l=0∧xk v l=qK v l:=by
 have h1:v=4∨v=5:=or9 h;have e:j1n v l=0:=(if_pos h1).trans ((if_pos (by simpa using h2)).trans (if_pos (by simpa using h3)));exact ⟨e,if_pos e⟩
end
structure Aw (B:Nat) (P:Pk) (s:Sl) (W:World):Prop where
 at_:P.At s W
 sc:s.ca=none→P.codes.length=0∧s.cc=0
 lo:∀ b off,(s.fa=some ⟨b,off,none⟩→P.filters≠[]→B≤b)∧(s.ca=some ⟨b,off,none⟩→P.codes≠[]→B≤b)
theorem Aw.zero (B:Nat) (W:World):Aw B (zk 0) ts W:=⟨⟨.nil _ _,.nil _ _,.nil _ _,.nil _ _⟩,λ_=>⟨rfl,rfl⟩,λb off=>⟨λ_ h=>absurd rfl h,λ_ h=>absurd rfl h⟩⟩
theorem Aw.fin {B B0 b:Nat} {P:Pk} {s:Sl} {w9 W':World} {ty:TypeId} {c:Array Value} (h:Aw B P s w9) (hk:Kept (One b) w9 W') (hb:Blk w9 b ty c) (hn:NoU c) (hlt:b<B) (hB:B0≤B):Aw B0 P s W':=by
 refine ⟨⟨h.at_.hw.propK hk (jq hb hn),h.at_.hf.kept hk λb' off e hne hS=>?_,h.at_.hc.kept hk λb' off e hne hS=>?_,h.at_.hp.propK hk (jq hb hn)⟩,h.sc,λb off=>⟨λe hn=>Nat.le_trans hB ((h.lo b off).1 e hn),λe hn=>Nat.le_trans hB ((h.lo b off).2 e hn)⟩⟩
 ·have e2:b'=b:=hS
  have:=(h.lo b' off).1 e (λhe=>hne (by rw[he];rfl))
  omega
 ·have e2:b'=b:=hS
  have:=(h.lo b' off).2 e (λhe=>hne (by rw[he];rfl))
  omega
theorem j8e {S:Nat→Prop} {w w1 W:World} (h:Kept No w w1) (hk:Kept S w1 W):Kept S w W:=(h.mono (λ_ _ f=>f.elim)).trans hk
theorem jFo (n:Nat) (w:World) (h:n<4294967296):(convert 87 3 (.int .u32 (n:Int))).run Tryz.prog w=.ok (.int .i64 (n:Int)) w:=by
 have u:=Tryz.underlying3;have u2:=Tryz.underlying87;have e:IntKind.i64.wrap (n:Int)=n:=jH (by omega) (by omega)
 go_simp
 try exact e
theorem jDt (S:Ts):S.var<268435456:=by
 have h:=j7k 4 0 0 S.l S.e (by decide);have e:(128:Nat) ^ (0+4)=268435456:=by decide
 unfold Ts.var;omega
theorem jHl (S:Ts):S.rdV.l.length≤S.l.length:=(j26 4 0 0 S.l S.e).length_le
theorem jQ1 {w W:World} {T:Nat→Prop} {r:Nat} {S:Ts} (h:Rk w T r S W):Calls Tryz.prog 45 #[.pointer (some ⟨r,0,none⟩)] W λe w'=>∃ u S1,e=.returned u∧RdP W r (.int .u32 (S.var:Int)) S.rdV S1 u w' :=
 (j65 W r S.l S.e h.r).mono λe w' q=>⟨_,_,q.1,rfl,rfl,Nat.le_trans (jHl _) h.n,q.2.rdr,q.2.kept⟩
end Go.Proofs.YtnehnjklgglliaaGreatDoor
namespace Go.Proofs.YtnehnjklgglliaaGreatDoor
open Go.RowKit
set_option linter.unusedVariables false
set_option linter.unusedSimpArgs false
set_option maxRecDepth 100000
theorem j3p (v:Int) (w:World):Calls Tryz.prog 11 #[.int .i64 v] w λe w'=>e=.returned (.bool (decide (v=4)||decide (v=5)))∧Kept No w w':=by
 let RR:Ending→World→Prop:=λe w'=>e=.returned (.bool (decide (v=4)||decide (v=5)))∧Kept No w w'
 go_enter Tryz.func11,Tryz.ntmps11
 generalize hA:({tmps:=_,defers:=[]}:Act)=A;have F:Fr A 9 [(0,(.int .i64 v))]:=by rw[← hA];exact (Fr.cons (i:=0) (v:=(.int .i64 v)) (Fr.nil0 rfl rfl) rfl)
 clear hA;have H:=Hp.start w;refine sg λK1 hK1=>?_;refine zd ?_;intro A F;refine nn (hK1 _ _) ?_;refine sg λK2 hK2=>?_;refine zd ?_;intro A F;refine zb (jG) ?_;intro A F;refine zd ?_;intro A F;refine zg ?_;intro A F;refine zgb (jG) ?_;intro A F;refine j3 F rfl (jN rfl (F.e rfl) (λhx=>(F.o rfl (gnt hx))) rfl) ?_;intro A F;refine zd ?_;intro A F;refine nn (hK2 _ _) ?_;refine j9 ?_;refine (show bodyPost _ Tryz.f11 RR Exit.ret _ _ from zr ?_);exact ⟨rfl,H.k⟩
theorem jPd {v:Int} {h:Hd} (h9:(((!(decide (v=4)||decide (v=5)))||decide (h.kind=0))||(decide (v=4)&&decide (h.kind=15)))=true):vX v h=false:=by
 unfold vX;rw[if_pos (by rw[← Bool.or_assoc];exact h9)]
theorem j9s {v:Int} {h:Hd} (h9:(((!(decide (v=4)||decide (v=5)))||decide (h.kind=0))||(decide (v=4)&&decide (h.kind=15)))=false):vX v h=if h.kind=3 then true else if h.kind=6∨h.kind=8∨h.kind=10 then decide (h.flags=2) else decide (h.flags=0):=by
 unfold vX;rw[if_neg (by rw[← Bool.or_assoc,h9];decide)]
theorem j9t (v:Int) (h:Hd) (w:World):Calls Tryz.prog 15 #[.int .i64 v,.agg #[.int .i64 h.kind,.int .u8 (h.flags:Int),.int .i64 h.head,.int .i64 (h.rest:Int)]] w λe w'=>e=.returned (.bool (vX v h))∧Kept No w w':=by
 let RR:Ending→World→Prop:=λe w'=>e=.returned (.bool (vX v h))∧Kept No w w'
 go_enter Tryz.func15,Tryz.ntmps15
 generalize hA:({tmps:=_,defers:=[]}:Act)=A;have F:Fr A 36 [(1,(.agg #[(.int .i64 h.kind),(.int .u8 ((h.flags:Int))),(.int .i64 h.head),(.int .i64 ((h.rest:Int)))])),(0,(.int .i64 v))]:=by rw[← hA];exact (Fr.cons (i:=1) (v:=(.agg #[(.int .i64 h.kind),(.int .u8 ((h.flags:Int))),(.int .i64 h.head),(.int .i64 ((h.rest:Int)))])) (Fr.cons (i:=0) (v:=(.int .i64 v)) (Fr.nil0 rfl rfl) rfl) rfl)
 clear hA;have H:=Hp.start w;refine sg λK1 hK1=>?_;refine ja (c:=#[(.int .i64 h.kind),(.int .u8 ((h.flags:Int))),(.int .i64 h.head),(.int .i64 ((h.rest:Int)))]) (t:=49) F H rfl (qO rfl (F.e rfl) (qP _ _)) ?_;clear F A;intro b2 W A hk hN H9 F;clear H;have H:=H9;clear H9;clear hk hN;refine zd ?_;intro A F;refine nn (hK1 _ _) ?_;refine wp_seq_k λK3 hK3=>?_;refine sg λK4 hK4=>?_;refine zd ?_;intro A F;refine jU F H rfl (j5 rfl rfl (j4 (F.e rfl) j8) jKv) (j3p v _) ?_;clear F H A;intro W A hk H F;clear hk
 iterate 2 (refine zd ?_;intro A F)
 iterate 2 (refine zg ?_;intro A F)
 refine zgb (jG) ?_;intro A F;refine j3 F rfl (jN rfl (F.e rfl) (λhx=>(F.o rfl (gnt hx))) rfl) ?_;intro A F;refine zd ?_;intro A F;refine zg ?_;intro A F;refine zgb (jG) ?_;intro A F
 iterate 3 (refine zg ?_;intro A F)
 refine zgb (jG) ?_;intro A F;refine zg ?_;intro A F;refine j3 F rfl (jN rfl (F.e rfl) (λhx=>(F.o rfl (gnt hx))) rfl) ?_;intro A F;refine nn (hK4 _ _) ?_;refine zc (λhb6=>?_) (λhb6=>?_)
 ·skip
  replace F:=((F.nil.cons (F.g 4 _ rfl)).cons (F.g 3 _ rfl))
  refine sg λK7 hK7=>?_;refine zd ?_;intro A F;refine nn (hK7 _ _) ?_;refine j9 ?_;refine (show bodyPost _ Tryz.f15 RR Exit.ret _ _ from zr ?_);exact ⟨congrArg (λb=>Ending.returned (.bool b)) (jPd hb6).symm,H.k⟩
 replace F:=((F.nil.cons (F.g 4 _ rfl)).cons (F.g 3 _ rfl))
 refine wp_skip (hK3 _ _ ?_);refine wp_seq_k λK8 hK8=>?_;refine sg λK9 hK9=>?_
 iterate 2 (refine zd ?_;intro A F)
 refine nn (hK9 _ _) ?_;refine wp_block ?_;refine sg λK10 hK10=>?_;refine zb (jG) ?_;intro A F;refine zd ?_;intro A F;refine nn (hK10 _ _) ?_;refine zc (λhb11=>?_) (λhb11=>?_)
 ·skip
  refine sg λK12 hK12=>?_;refine zd ?_;intro A F;refine nn (hK12 _ _) ?_;refine j9 ?_;refine (show bodyPost _ Tryz.f15 RR Exit.ret _ _ from zr ?_);exact ⟨congrArg (λb=>Ending.returned (.bool b)) (by have e9:=(j9s hb6).trans (if_pos (by have:=of_decide_eq_true hb11;omega));rw[e9];first|done|rfl|(apply decide_eq_decide.2;omega)),H.k⟩
 refine wp_seq_k λK13 hK13=>?_;refine sg λK14 hK14=>?_;refine zb (jG) ?_;intro A F;refine zd ?_;intro A F;refine nn (hK14 _ _) ?_;refine zc (λhb15=>?_) (λhb15=>?_)
 ·skip
  refine wp_skip (hK13 _ _ ?_);refine wp_cond_true ((F.e rfl).trans (congrArg Value.bool hb15)) ?_;refine sg λK16 hK16=>?_
  iterate 2 (refine zd ?_;intro A F)
  refine zb (jt (i:=h.flags) (j:=2)) ?_;intro A F;refine zd ?_;intro A F;refine nn (hK16 _ _) ?_;refine j9 ?_;refine (show bodyPost _ Tryz.f15 RR Exit.ret _ _ from zr ?_);exact ⟨congrArg (λb=>Ending.returned (.bool b)) (by have e9:=(j9s hb6).trans ((if_neg (by have:=of_decide_eq_false hb11;have:=of_decide_eq_true hb15;omega)).trans (if_pos (by have:=of_decide_eq_false hb11;have:=of_decide_eq_true hb15;omega)));rw[e9];first|done|rfl|(apply decide_eq_decide.2;omega)),H.k⟩
 refine sg λK17 hK17=>?_;refine zb (jG) ?_;intro A F;refine zd ?_;intro A F;refine nn (hK17 _ _) ?_;refine zc (λhb18=>?_) (λhb18=>?_)
 ·skip
  refine wp_skip (hK13 _ _ ?_);refine wp_cond_true ((F.e rfl).trans (congrArg Value.bool hb18)) ?_;refine sg λK19 hK19=>?_
  iterate 2 (refine zd ?_;intro A F)
  refine zb (jt (i:=h.flags) (j:=2)) ?_;intro A F;refine zd ?_;intro A F;refine nn (hK19 _ _) ?_;refine j9 ?_;refine (show bodyPost _ Tryz.f15 RR Exit.ret _ _ from zr ?_);exact ⟨congrArg (λb=>Ending.returned (.bool b)) (by have e9:=(j9s hb6).trans ((if_neg (by have:=of_decide_eq_false hb11;have:=of_decide_eq_false hb15;have:=of_decide_eq_true hb18;omega)).trans (if_pos (by have:=of_decide_eq_false hb11;have:=of_decide_eq_false hb15;have:=of_decide_eq_true hb18;omega)));rw[e9];first|done|rfl|(apply decide_eq_decide.2;omega)),H.k⟩
 refine jC ?_;refine zb (jG) ?_;intro A F;refine zd ?_;intro A F;refine nn (hK13 _ _) ?_;refine zc (λhb20=>?_) (λhb20=>?_)
 ·skip
  refine sg λK21 hK21=>?_
  iterate 2 (refine zd ?_;intro A F)
  refine zb (jt (i:=h.flags) (j:=2)) ?_;intro A F;refine zd ?_;intro A F;refine nn (hK21 _ _) ?_;refine j9 ?_;refine (show bodyPost _ Tryz.f15 RR Exit.ret _ _ from zr ?_);exact ⟨congrArg (λb=>Ending.returned (.bool b)) (by have e9:=(j9s hb6).trans ((if_neg (by have:=of_decide_eq_false hb11;have:=of_decide_eq_false hb15;have:=of_decide_eq_false hb18;have:=of_decide_eq_true hb20;omega)).trans (if_pos (by have:=of_decide_eq_false hb11;have:=of_decide_eq_false hb15;have:=of_decide_eq_false hb18;have:=of_decide_eq_true hb20;omega)));rw[e9];first|done|rfl|(apply decide_eq_decide.2;omega)),H.k⟩
 refine wp_skip (hK8 _ _ ?_);refine sg λK22 hK22=>?_
 iterate 2 (refine zd ?_;intro A F)
 refine zb (jt (i:=h.flags) (j:=0)) ?_;intro A F;refine zd ?_;intro A F;refine nn (hK22 _ _) ?_;refine j9 ?_;refine (show bodyPost _ Tryz.f15 RR Exit.ret _ _ from zr ?_);exact ⟨congrArg (λb=>Ending.returned (.bool b)) (by have e9:=(j9s hb6).trans ((if_neg (by have:=of_decide_eq_false hb11;have:=of_decide_eq_false hb15;have:=of_decide_eq_false hb18;have:=of_decide_eq_false hb20;omega)).trans (if_neg (by have:=of_decide_eq_false hb11;have:=of_decide_eq_false hb15;have:=of_decide_eq_false hb18;have:=of_decide_eq_false hb20;omega)));rw[e9];first|done|rfl|(apply decide_eq_decide.2;omega)),H.k⟩
theorem jE7 (a:Option Addr) (c:Nat) (l:List UInt8) (w:World) (hr:Row w a (B8 l)) (hn:a=none→l.length=0∧c=0) (hc:l.length≤c):Calls Tryz.prog 14 #[.slice a l.length c] w λe w'=>e=.returned (.tuple #[.agg #[.int .i64 (qL l).kind,.int .u8 ((qL l).flags:Int),.int .i64 (qL l).head,.int .i64 ((qL l).rest:Int)],.int .i64 (vK l)])∧Kept No w w':=by
 let RR:Ending→World→Prop:=λe w'=>e=.returned (.tuple #[.agg #[.int .i64 (qL l).kind,.int .u8 ((qL l).flags:Int),.int .i64 (qL l).head,.int .i64 ((qL l).rest:Int)],.int .i64 (vK l)])∧Kept No w w'
 go_enter Tryz.func14,Tryz.ntmps14
 generalize hA:({tmps:=_,defers:=[]}:Act)=A;have F:Fr A 38 [(0,(.slice a l.length c))]:=by rw[← hA];exact (Fr.cons (i:=0) (v:=(.slice a l.length c)) (Fr.nil0 rfl rfl) rfl)
 clear hA;have H:=Hp.start w;have h5:(l.take 5).length≤5:=by rw[List.length_take];omega
 refine sg λK1 hK1=>?_;refine ja (c:=#[(.int .i64 0),(.int .u8 0),(.int .i64 0),(.int .i64 0)]) (t:=49) F H rfl (jY rfl (jKm _)) ?_;clear F A;intro hb W A hk hN H9 F;clear H;have H:=H9;clear H9;clear hk hN;refine zd ?_;intro A F;refine nn (hK1 _ _) ?_;refine sg λK2 hK2=>?_
 iterate 2 (refine zd ?_;intro A F)
 refine j3 F rfl (ju rfl (j4 (F.e rfl) j8) (jk Tryz.underlying22)) ?_;intro A F;refine j3 F rfl (jCt rfl (j4 (F.e rfl) (j4 jA j8))) ?_;intro A F;obtain ⟨a5,c5,hsl,hr5,hn5,hc5⟩:=j6c (hr.keptNo H.k) hn hc 5;refine j3 (v:=(.slice a5 ((l.take 5).length) c5)) F rfl (j2e rfl (F.e rfl) rfl (congrArg some (F.e rfl)) rfl hsl) ?_;intro A F;refine zd ?_;intro A F;refine nn (hK2 _ _) ?_;refine sg λK3 hK3=>?_;refine zd ?_;intro A F;refine vE (R:=λvv ww=>∃ r:Nat,vv=.pointer (some ⟨r,0,none⟩)∧w.heap.size≤r∧Rdr ww r (l.take 5) 0) F H rfl (j5 rfl rfl (j4 (F.e rfl) j8) jKw) ((j2v a5 c5 (l.take 5) _ hr5 hn5 (by omega)).mono λe9 ww ⟨r9,h91,h92,h93,h94⟩=>⟨_,h91,⟨r9,rfl,Nat.le_trans H.size h92,h93⟩,h94⟩) ?_;clear F H A;intro vv W A hR hk H F;obtain ⟨r,rfl,hr0,hR0⟩:=hR;clear hk;obtain ⟨S0,hS0⟩:∃ S0:Ts,S0=⟨l.take 5,0,false⟩:=⟨_,rfl⟩
 have hZ:Rk w (λ_=>True) r S0 _:=⟨by rw[hS0];show (l.take 5).length≤100000;exact (by omega),by rw[hS0];exact hR0,H.k.mono (λ_ _ f=>f.elim)⟩
 clear hR0;have hS0l:S0.l.length≤(l.take 5).length:=by rw[hS0];exact Nat.le_refl _
 refine zd ?_;intro A F;refine nn (hK3 _ _) ?_;refine sg λK5 hK5=>?_;refine zd ?_;intro A F;refine jI (λ(x:Ts)=>[⟨hb,49,#[(.int .i64 0),(.int .u8 0),(.int .i64 0),(.int .i64 0)]⟩]) (RdP _ r (.int .u8 ((S0.num 1:Int))) (S0.rd 1)) F rfl (j5 rfl rfl (j4 (F.e rfl) j8) j53) (j5f hZ) (λS6 _ _ h=>Hp.re H (h.2.2.k) (ge1 hr0) ⟨kP1 (h.2.2.k) hZ.r.blk (ne9 rfl),trivial⟩) ?_;clear F H A;intro S6 vv W A hR H F;obtain ⟨rfl,hS6,hZ9⟩:=hR
 try dsimp only at H
 replace hZ:=hZ.step hZ9 (λ_ _=>trivial);clear hZ9;have h86:=ql S0;refine zd ?_;intro A F;refine jI (λ(x:Ts)=>[⟨hb,49,#[(.int .i64 0),(.int .u8 0),(.int .i64 0),(.int .i64 0)]⟩]) (RdP _ r (.int .u32 ((S6.var:Int))) S6.rdV) F rfl (j5 rfl rfl (j4 (F.e rfl) j8) jO9) (jQ1 hZ) (λS7 _ _ h=>Hp.re H (h.2.2.k) (ge1 hr0) ⟨kP1 (h.2.2.k) hZ.r.blk (ne9 rfl),trivial⟩) ?_;clear F H A;intro S7 vv W A hR H F;obtain ⟨rfl,hS7,hZ9⟩:=hR
 try dsimp only at H
 replace hZ:=hZ.step hZ9 (λ_ _=>trivial);clear hZ9;have hn9:=hZ.n
 iterate 2 (refine zd ?_;intro A F)
 refine nn (hK5 _ _) ?_;refine wp_seq_k λK8 hK8=>?_;refine sg λK9 hK9=>?_;refine zd ?_;intro A F;refine jU F H rfl (j5 rfl rfl (j4 (F.e rfl) j8) jGr) (jMq hZ) ?_;clear F H A;intro W A hk H F;replace hZ:=hZ.no hk;clear hk;refine zb (vn) ?_;intro A F;refine nn (hK9 _ _) ?_;refine zc (λhb11=>?_) (λhb11=>?_)
 ·skip
  replace F:=((((((F.nil.cons (F.g 7 _ rfl)).cons (F.g 6 _ rfl)).cons (F.g 5 _ rfl)).cons (F.g 4 _ rfl)).cons (F.g 3 _ rfl)).cons (F.g 2 _ rfl))
  refine sg λK12 hK12=>?_;refine j3 (v:=(.agg #[(.int .i64 0),(.int .u8 0),(.int .i64 0),(.int .i64 0)])) F rfl (jV rfl js (by kernel_rfl)) ?_;intro A F;refine zd ?_;intro A F;refine jU F H rfl (j5 rfl rfl (j4 (F.e rfl) j8) jGr) (jMq hZ) ?_;clear F H A;intro W A hk H F;replace hZ:=hZ.no hk;clear hk;obtain ⟨W9,hr,hB,hk⟩:=j7 (P:=Tryz.prog) (S:=49) (c:=#[(.int .i64 0),(.int .u8 0),(.int .i64 0),(.int .i64 0)]) _ (H.b.at_ (j:=0) rfl).1 (j57 _) rfl (by simp[Value.oneCell']);replace hZ:=hZ.st (H.b.at_ (j:=0) rfl).1 (ne9 rfl) (ne9 rfl) (.inr trivial) hk;refine jW (jD rfl (F.e rfl) (F.e rfl) hr) ?_;clear hr;replace H:Hp _ _ [_]:=Hp.turn [] H hk hB;clear hk hB;refine zd ?_;intro A F;refine nn (hK12 _ _) ?_;refine j9 ?_;refine (show bodyPost _ Tryz.f14 RR Exit.ret _ _ from ?_);exact bodyPost_ret (qV rfl (F.g 2 _ rfl) (F.g 3 _ rfl) (jE (#[(.int .i64 0),(.int .u8 0),(.int .i64 0),(.int .i64 0)]) rfl (jD6 _) (j57 _) (λi=>H.cs 0 rfl i))) F.d ((by have hE:vK l=S7.e:=(by subst hS7 hS6;subst hS0;rfl);have hB:qL l=⟨0,0,0,0⟩:=if_neg (by rw[hE];have h9:(!decide (S7.e=0))=true:=hb11;simpa using h9);exact ⟨by first|(rw[hB,hE];done)|(rw[hB,hE];rfl),H.k⟩))
 replace F:=((((((F.nil.cons (F.g 7 _ rfl)).cons (F.g 6 _ rfl)).cons (F.g 5 _ rfl)).cons (F.g 4 _ rfl)).cons (F.g 3 _ rfl)).cons (F.g 2 _ rfl))
 refine wp_skip (hK8 _ _ ?_);refine sg λK14 hK14=>?_;refine zd ?_;intro A F;refine j3 F rfl (jF rfl (F.e rfl) jA (vu (i:=S0.num 1) (j:=16) (by decide) (vf (by omega) (by omega)))) ?_;intro A F;refine j3 (v:=(.int .i64 ((((S0.num 1) / 16:Nat):Int)))) F rfl (q9 rfl (F.e rfl) (j48 ((((S0.num 1) / 16:Nat):Int)) _ (by omega) (by omega))) ?_;intro A F;refine zd ?_;intro A F;refine zb (vc (i:=S0.num 1) (j:=16) (by decide)) ?_;intro A F;refine zd ?_;intro A F;refine j3 F rfl (ju rfl (j4 (F.e rfl) j8) (jk Tryz.underlying22)) ?_;intro A F;refine zd ?_;intro A F;refine jU F H rfl (j5 rfl rfl (j4 (F.e rfl) j8) j9j) (j9y hZ) ?_;clear F H A;intro W A hk H F;replace hZ:=hZ.no hk;clear hk;refine j3 F rfl (jF rfl (F.e rfl) (F.e rfl) (jN3 (jH (by omega) (by omega)))) ?_;intro A F;refine zd ?_;intro A F;refine j3 (v:=(.int .i64 ((S6.var:Int)))) F rfl (q9 rfl (F.e rfl) (jFo _ _ (by have:=jDt S6;omega))) ?_;intro A F;refine j3 (v:=(.agg #[(.int .i64 ((((S0.num 1) / 16:Nat):Int))),(.int .u8 ((((S0.num 1) % 16:Nat):Int))),(.int .i64 (((((l.take 5).length):Int)) - ((S7.l.length:Int)))),(.int .i64 ((S6.var:Int)))])) F rfl (jV rfl (j6 (F.e rfl) (j6 (F.e rfl) (j6 (F.e rfl) (j6 (F.e rfl) js)))) (by kernel_rfl)) ?_;intro A F;obtain ⟨W9,hr,hB,hk⟩:=j7 (P:=Tryz.prog) (S:=49) (c:=#[(.int .i64 ((((S0.num 1) / 16:Nat):Int))),(.int .u8 ((((S0.num 1) % 16:Nat):Int))),(.int .i64 (((((l.take 5).length):Int)) - ((S7.l.length:Int)))),(.int .i64 ((S6.var:Int)))]) _ (H.b.at_ (j:=0) rfl).1 (j57 _) rfl (by simp[Value.oneCell']);replace hZ:=hZ.st (H.b.at_ (j:=0) rfl).1 (ne9 rfl) (ne9 rfl) (.inr trivial) hk;refine jW (jD rfl (F.e rfl) (F.e rfl) hr) ?_;clear hr;replace H:Hp _ _ [_]:=Hp.turn [] H hk hB;clear hk hB;refine zd ?_;intro A F;refine nn (hK14 _ _) ?_;refine j9 ?_;refine (show bodyPost _ Tryz.f14 RR Exit.ret _ _ from ?_);exact bodyPost_ret (qV rfl (F.g 2 _ rfl) (F.g 3 _ rfl) (jE (#[(.int .i64 ((((S0.num 1) / 16:Nat):Int))),(.int .u8 ((((S0.num 1) % 16:Nat):Int))),(.int .i64 (((((l.take 5).length):Int)) - ((S7.l.length:Int)))),(.int .i64 ((S6.var:Int)))]) rfl (jD6 _) (j57 _) (λi=>H.cs 0 rfl i))) F.d ((by have hE:vK l=S7.e:=(by subst hS7 hS6;subst hS0;rfl);have h8:S7.e=0:=(by have h9:(!decide (S7.e=0))=false:=hb11;simpa using h9);have hB:qL l=⟨((S0.num 1 / 16:Nat):Int),S0.num 1 % 16,((l.take 5).length:Int) - (S7.l.length:Int),S6.var⟩:=(by subst hS7 hS6;subst hS0;exact if_pos (hE.trans h8));exact ⟨by first|(rw[hB,hE,h8];done)|(rw[hB,hE,h8];rfl),H.k⟩))
open Go.RowKit
set_option linter.unusedVariables false
set_option linter.unusedSimpArgs false
set_option maxRecDepth 100000
theorem jDf (l:List UInt8):(qL l).rest<268435456:=by
 unfold qL
 split
 ·exact j7k 4 0 0 _ _ (by decide)
 ·decide
def j3l (B:Nat) (v:Int) (l:List UInt8) (u:Value) (W:World):Prop:=∃ s1,u=.tuple #[(qK v l).val s1,.bool (qn v l)]∧Aw B (qK v l) s1 W
def jDv (B:Nat) (v:Int) (l:List UInt8) (u:Value) (W:World):Prop:=∃ s1,u=.tuple #[(xk v l).val s1,.int .i64 (j1n v l)]∧Aw B (xk v l) s1 W
theorem j72 (v:Int) (a:Option Addr) (c:Nat) (l:List UInt8) (w:World) (hr:Row w a (B8 l)) (hn:a=none→l.length=0∧c=0) (hc:l.length≤c) (hl:l.length≤100000) (hT:Tabs w) :
  Calls Tryz.prog 6 #[.int .i64 v,.slice a l.length c] w λe w'=>∃ u,e=.returned u∧j3l w.heap.size v l u w'∧Kept No w w':=by
 let RR:Ending→World→Prop:=λe w'=>∃ u,e=.returned u∧j3l w.heap.size v l u w'∧Kept No w w'
 go_enter Tryz.func6,Tryz.ntmps6
 generalize hA:({tmps:=_,defers:=[]}:Act)=A;have F:Fr A 53 [(1,(.slice a l.length c)),(0,(.int .i64 v))]:=by rw[← hA];exact (Fr.cons (i:=1) (v:=(.slice a l.length c)) (Fr.cons (i:=0) (v:=(.int .i64 v)) (Fr.nil0 rfl rfl) rfl) rfl)
 clear hA;have H:=Hp.start w;obtain ⟨hd,he⟩:∃ hd,qL l=hd:=⟨_,rfl⟩
 have HC:∀ W,Kept No w W→Calls Tryz.prog 14 #[.slice a l.length c] W λe w'=>e=.returned (.tuple #[.agg #[.int .i64 hd.kind,.int .u8 (hd.flags:Int),.int .i64 hd.head,.int .i64 (hd.rest:Int)],.int .i64 (vK l)])∧Kept No W w':=λW hk=>by have h9:=jE7 a c l W (hr.keptNo hk) hn hc;rw[he]at h9;exact h9
 refine sg λK1 hK1=>?_;refine ja (c:=jP) (t:=27) F H rfl (jY rfl (zJ _)) ?_;clear F A;intro q4 W A hk hN H9 F;clear H;have H:=H9;clear H9;clear hk hN;refine zd ?_;intro A F;refine nn (hK1 _ _) ?_;refine sg λK2 hK2=>?_;refine zd ?_;intro A F;refine jU F H rfl (j5 rfl rfl (j4 (F.e rfl) j8) jNt) (HC _ H.k) ?_;clear F H A;intro W A hk H F;clear hk
 iterate 3 (refine zd ?_;intro A F)
 refine ja (c:=#[(.int .i64 0),(.int .u8 0),(.int .i64 0),(.int .i64 0)]) (t:=49) F H rfl (jY rfl (jKm _)) ?_;clear F A;intro hb W A hk hN H9 F;clear H;have H:=H9;clear H9;clear hk hN;obtain ⟨W9,hr,hB,hk⟩:=j7 (P:=Tryz.prog) (S:=49) (c:=#[(.int .i64 hd.kind),(.int .u8 ((hd.flags:Int))),(.int .i64 hd.head),(.int .i64 ((hd.rest:Int)))]) _ (H.b.at_ (j:=0) rfl).1 (j57 _) rfl (by simp[Value.oneCell']);refine jW (jD rfl (F.e rfl) (F.e rfl) hr) ?_;clear hr;replace H:Hp _ _ [_,_]:=Hp.turn [] H hk hB;clear hk hB;refine zd ?_;intro A F;refine nn (hK2 _ _) ?_;refine wp_seq_k λK4 hK4=>?_;refine wp_seq_k λK5 hK5=>?_;have hfl:=j9r l;have hh:=jDd l;have hrs:=jDf l;rw[he]at hfl hh hrs;refine jC ?_;refine zd ?_;intro A F;refine zb (vn) ?_;intro A F;refine zd ?_;intro A F;refine zg ?_;intro A F;refine q6 F rfl (jv F rfl rfl rfl) (λhG=>(ju rfl (j4 (F.o rfl hG) j8) (jk Tryz.underlying22))) ?_;intro A F
 iterate 4 (refine zg ?_;intro A F)
 refine q6 F rfl (jv F rfl rfl rfl) (λhG=>(jF rfl (F.o rfl hG) (F.o rfl hG) (jw (jH (by omega) (by omega))))) ?_;intro A F;refine zgb (vn) ?_;intro A F;refine j3 F rfl (jN rfl (F.e rfl) (λhx=>(F.o rfl (gnt hx))) rfl) ?_;intro A F;refine zd ?_;intro A F;refine zg ?_;intro A F;refine q6 F rfl (jv F rfl rfl rfl) (λhG=>(jB rfl (F.e rfl) (jE (#[(.int .i64 hd.kind),(.int .u8 ((hd.flags:Int))),(.int .i64 hd.head),(.int .i64 ((hd.rest:Int)))]) rfl (jD6 _) (j57 _) (λi=>H.cs 0 rfl i)))) ?_;intro A F;refine jl F H rfl (jv F rfl rfl rfl) (λhG=>(j5 rfl rfl (j4 (F.o rfl hG) (j4 (F.o rfl hG) j8)) jNu)) (λhG=>j9t v hd _) ?_;clear F H A;intro W A hk H F;clear hk;refine zg ?_;intro A F;refine j3 F rfl (jN rfl (F.e rfl) (λhx=>(F.o rfl (gnt hx))) rfl) ?_;intro A F;refine nn (hK5 _ _) ?_;refine zc (λhb7=>?_) (λhb7=>?_)
 ·skip
  replace F:=(((((F.nil.cons (F.g 6 _ rfl)).cons (F.g 5 _ rfl)).cons (F.g 4 _ rfl)).cons (F.g 1 _ rfl)).cons (F.g 0 _ rfl))
  refine sg λK8 hK8=>?_;refine j3 (v:=(Pk.val ((zk 0)) ts)) F rfl (jV rfl js (by kernel_rfl)) ?_;intro A F;obtain ⟨W9,hr,hB,hk⟩:=j7 (P:=Tryz.prog) (S:=27) (c:=(Pk.cells ((zk 0)) ts)) _ (H.b.at_ (j:=1) rfl).1 (jM _) rfl (jO _ _);refine jW (jD rfl (F.e rfl) (F.e rfl) hr) ?_;clear hr;replace H:Hp _ _ [_,_]:=Hp.turn [_] H hk hB;clear hk hB;refine zd ?_;intro A F;refine nn (hK8 _ _) ?_;refine j9 ?_;refine (show bodyPost _ Tryz.f6 RR Exit.ret _ _ from ?_);exact bodyPost_ret (qV rfl (F.g 4 _ rfl) (F.g 5 _ rfl) (jE ((Pk.cells ((zk 0)) ts)) rfl (jb _) (jM _) (λi=>H.cs 1 rfl i))) F.d ((by have hF:=jMe he hb7;have hP:=j0w hF;exact ⟨_,rfl,⟨ts,(by first|(rw[hP,hF];done)|(rw[hP,hF];rfl)),by rw[hP];exact Aw.zero _ _⟩,H.k⟩))
 replace F:=(((((F.nil.cons (F.g 6 _ rfl)).cons (F.g 5 _ rfl)).cons (F.g 4 _ rfl)).cons (F.g 1 _ rfl)).cons (F.g 0 _ rfl))
 refine wp_skip (hK4 _ _ ?_);refine wp_seq_k λK9 hK9=>?_;have hq:=jMf hb7;have hq2:=hq.2.1;refine jC ?_
 iterate 4 (refine zd ?_;intro A F)
 obtain ⟨a5,c5,hsl,hr5,hn5⟩:=j6b (hr.keptNo H.k) hn hc hd.head.toNat (by omega);rw[Int.toNat_of_nonneg hh.1]at hsl;refine j3 (v:=(.slice a5 ((l.drop hd.head.toNat).length) c5)) F rfl (j2e rfl (F.e rfl) (congrArg some (F.e rfl)) rfl rfl hsl) ?_;intro A F;refine vE (R:=λvv ww=>∃ r:Nat,vv=.pointer (some ⟨r,0,none⟩)∧w.heap.size≤r∧Rdr ww r (l.drop hd.head.toNat) 0) F H rfl (j5 rfl rfl (j4 (F.e rfl) j8) jKw) ((j2v a5 c5 (l.drop hd.head.toNat) _ hr5 hn5 (by rw[List.length_drop];omega)).mono λe9 ww ⟨r9,h91,h92,h93,h94⟩=>⟨_,h91,⟨r9,rfl,Nat.le_trans H.size h92,h93⟩,h94⟩) ?_;clear F H A;intro vv W A hR hk H F;obtain ⟨r,rfl,hr0,hR0⟩:=hR;clear hk;obtain ⟨S0,hS0⟩:∃ S0:Ts,S0=⟨l.drop hd.head.toNat,0,false⟩:=⟨_,rfl⟩
 have hZ:Rk w (λ_=>True) r S0 _:=⟨by rw[hS0];show (l.drop hd.head.toNat).length≤100000;exact (by rw[List.length_drop];omega),by rw[hS0];exact hR0,H.k.mono (λ_ _ f=>f.elim)⟩
 clear hR0;have hS0l:S0.l.length≤(l.drop hd.head.toNat).length:=by rw[hS0];exact Nat.le_refl _
 refine j3 (v:=(.agg #[(.int .i64 v),(.pointer (some ⟨r,0,none⟩)),(.bool false)])) F rfl (jV rfl (j6 (F.e rfl) (j6 (F.e rfl) js)) (by kernel_rfl)) ?_;intro A F;refine ja (c:=#[(.int .i64 0),(.pointer none),(.bool false)]) (t:=56) F H rfl (jY rfl (jNk _)) ?_;clear F A;intro t W A hk hN H9 F;clear H;have H:=H9;clear H9;have hN_hZ_t:=Nat.le_trans hZ.k.size hN;replace hZ:=hZ.no hk;clear hk hN;obtain ⟨W9,hr,hB,hk⟩:=j7 (P:=Tryz.prog) (S:=56) (c:=#[(.int .i64 v),(.pointer (some ⟨r,0,none⟩)),(.bool false)]) _ (H.b.at_ (j:=0) rfl).1 (jP9 _) rfl (by simp[Value.oneCell']);replace hZ:=hZ.st (H.b.at_ (j:=0) rfl).1 (ne9 rfl) (ne9 rfl) (.inr trivial) hk;refine jW (jD rfl (F.e rfl) (F.e rfl) hr) ?_;clear hr;replace H:Hp _ _ [_,_,_]:=Hp.turn [] H hk hB;clear hk hB;refine nn (hK9 _ _) ?_;refine sg λK11 hK11=>?_;refine j3 F rfl (jB rfl (F.e rfl) (jE (#[(.int .i64 hd.kind),(.int .u8 ((hd.flags:Int))),(.int .i64 hd.head),(.int .i64 ((hd.rest:Int)))]) rfl (jD6 _) (j57 _) (λi=>H.cs 1 rfl i))) ?_;intro A F;have hSb:S0.b=false:=(by rw[hS0])
 have hl4:=(H.b.at_ (j:=2) rfl).1.lt;have hs9:=H.size;obtain ⟨htb,ht0⟩:=H.b.at_ (j:=0) rfl;refine jI (λ(x:Ts × Pk × Sl)=>[⟨t,56,#[(.int .i64 v),(.pointer (some ⟨r,0,none⟩)),(.bool x.1.b)]⟩,⟨hb,49,#[(.int .i64 hd.kind),(.int .u8 ((hd.flags:Int))),(.int .i64 hd.head),(.int .i64 ((hd.rest:Int)))]⟩,⟨q4,27,jP⟩]) (λx=>FdP _ v t r (qR v hd.kind hd.flags S0) x.1 x.2.1 x.2.2) F rfl (j5 rfl rfl (j4 (F.e rfl) (j4 (F.e rfl) j8)) jNv) (j9f w _ t r v S0 ⟨H.k,(show Blk _ t 56 #[.int .i64 v,.pointer (some ⟨r,0,none⟩),.bool S0.b] from (by rw[hSb];exact htb)),ht0,by simp,trivial⟩ hr0 hZ.r hZ.n hd.kind hd.flags hd.head (hd.rest:Int) (by omega) hT) (λx9 _ _ h=>Hp.re H (h.z.k) (ge2 hr0 ht0) ⟨⟨rfl,λ_=>h.tb⟩,⟨kP2 (h.z.k) hZ.r.blk (ne9 rfl) htb (ne9 rfl),⟨kP2 (h.z.k) hZ.r.blk (ne9 rfl) htb (ne9 rfl),trivial⟩⟩⟩) ?_;clear F H A;intro x9 vv W A hR H F;obtain ⟨S12,P12,s12⟩:=x9;replace hR:FdP _ v t r (qR v hd.kind hd.flags S0) S12 P12 s12 vv W:=hR;obtain ⟨rfl,hS12,hP12,hZ9,-,hAt,hsc,hlo⟩:=hR
 try dsimp only at H
 replace hZ:=hZ.step hZ9 (λ_ _=>trivial);clear hZ9;clear htb ht0;obtain ⟨w9,KA,hA,hb4⟩:∃ w1,Kept No w1 W∧Aw _ P12 s12 w1∧Blk w1 q4 27 jP:=⟨W,Kept.refl No W,⟨hAt,hsc,hlo⟩,(H.b.at_ (j:=2) rfl).1⟩;clear hAt hsc hlo;refine ja (c:=jP) (t:=27) F H rfl (jY rfl (zJ _)) ?_;clear F A;intro p9 W A hk hN H9 F;clear H;have H:=H9;clear H9;have hN_hZ_p9:=Nat.le_trans hZ.k.size hN;have hN_KA_p9:=Nat.le_trans KA.size hN;replace hZ:=hZ.no hk;replace KA:=KA.trans hk;clear hk hN;obtain ⟨W9,hr,hB,hk⟩:=j7 (P:=Tryz.prog) (S:=27) (c:=(Pk.cells P12 s12)) _ (H.b.at_ (j:=0) rfl).1 (jM _) rfl (jO _ _);replace hZ:=hZ.st (H.b.at_ (j:=0) rfl).1 (ne9 rfl) (ne9 rfl) (.inr trivial) hk;refine jW (jD rfl (F.e rfl) (F.e rfl) hr) ?_;clear hr;replace H:Hp _ _ [_,_,_,_]:=Hp.turn [] H hk hB;replace KA:=KA.then hk (λi9 hi9 e9=>by have e9:i9=p9:=e9;have:=hN_KA_p9;omega);clear hk hB;refine nn (hK11 _ _) ?_;refine wp_seq_k λK13 hK13=>?_;refine sg λK14 hK14=>?_;have htb9:=(H.b.at_ (j:=1) rfl)
 refine jU F H rfl (j5 rfl rfl (j4 (F.e rfl) j8) jKx) (jHh w _ t r v S12 ⟨H.k,htb9.1,htb9.2,by simp,trivial⟩ hr0 hZ.r hZ.n) ?_;clear F H A;intro W A hk H F;replace hZ:=hZ.no hk;replace KA:=KA.trans hk;clear hk
 iterate 2 (refine zd ?_;intro A F)
 iterate 2 (refine zg ?_;intro A F)
 refine jl F H rfl (jv F rfl rfl rfl) (λhG=>(j5 rfl rfl (j4 (F.o rfl hG) j8) j9j)) (λhG=>j9y hZ) ?_;clear F H A;intro W A hk H F;replace hZ:=hZ.no hk;replace KA:=KA.trans hk;clear hk;refine zgb (qN (i:=S12.l.length) (j:=0)) ?_;intro A F;refine j3 F rfl (jN rfl (F.e rfl) (λhx=>(F.o rfl (gnt hx))) rfl) ?_;intro A F;refine nn (hK14 _ _) ?_;refine zc (λhb17=>?_) (λhb17=>?_)
 ·skip
  replace F:=(((F.nil.cons (F.g 9 _ rfl)).cons (F.g 5 _ rfl)).cons (F.g 4 _ rfl))
  refine sg λK18 hK18=>?_;refine j3 (v:=(Pk.val ((zk 0)) ts)) F rfl (jV rfl js (by kernel_rfl)) ?_;intro A F;obtain ⟨W9,hr,hB,hk⟩:=j7 (P:=Tryz.prog) (S:=27) (c:=(Pk.cells ((zk 0)) ts)) _ (H.b.at_ (j:=3) rfl).1 (jM _) rfl (jO _ _);refine jW (jD rfl (F.e rfl) (F.e rfl) hr) ?_;clear hr;replace H:Hp _ _ [_,_,_,_]:=Hp.turn [_,_,_] H hk hB;clear hk hB;refine zd ?_;intro A F;refine nn (hK18 _ _) ?_;refine j9 ?_;refine (show bodyPost _ Tryz.f6 RR Exit.ret _ _ from ?_);exact bodyPost_ret (qV rfl (F.g 4 _ rfl) (F.g 5 _ rfl) (jE ((Pk.cells ((zk 0)) ts)) rfl (jb _) (jM _) (λi=>H.cs 3 rfl i))) F.d ((by have hF:=jGu (v:=v) (K:=qR v hd.kind hd.flags S0) he (by rw[hS0]) (by rw[← hS12];exact hb17);have hP:=j0w hF;exact ⟨_,rfl,⟨ts,(by first|(rw[hP,hF];done)|(rw[hP,hF];rfl)),by rw[hP];exact Aw.zero _ _⟩,H.k⟩))
 replace F:=(((F.nil.cons (F.g 9 _ rfl)).cons (F.g 5 _ rfl)).cons (F.g 4 _ rfl))
 refine wp_skip (hK13 _ _ ?_);refine sg λK19 hK19=>?_;refine j3 F rfl (jB rfl (F.e rfl) (jE ((Pk.cells P12 s12)) rfl (jb _) (jM _) (λi=>H.cs 0 rfl i))) ?_;intro A F;obtain ⟨W9,hr,hB,hk⟩:=j7 (P:=Tryz.prog) (S:=27) (c:=(Pk.cells P12 s12)) _ (H.b.at_ (j:=3) rfl).1 (jM _) rfl (jO _ _);refine jW (jD rfl (F.e rfl) (F.e rfl) hr) ?_;clear hr;replace H:Hp _ _ [_,_,_,_]:=Hp.turn [_,_,_] H hk hB;replace KA:=j8e KA hk;clear hk hB;refine zd ?_;intro A F;refine nn (hK19 _ _) ?_;refine j9 ?_;refine (show bodyPost _ Tryz.f6 RR Exit.ret _ _ from ?_);exact bodyPost_ret (qV rfl (F.g 4 _ rfl) (F.g 5 _ rfl) (jE ((Pk.cells P12 s12)) rfl (jb _) (jM _) (λi=>H.cs 3 rfl i))) F.d ((by have hF:=jGv (v:=v) (K:=qR v hd.kind hd.flags S0) he hq (by rw[hS0]) (by rw[← hS12];exact hb17);rw[← hP12]at hF;exact ⟨_,rfl,⟨s12,(by first|(rw[hF.1,hF.2];done)|(rw[hF.1,hF.2];rfl)),by rw[hF.2];exact hA.fin KA hb4 (jn (zk 0) ts) hl4 hs9⟩,H.k⟩))
theorem xw (v:Int) (a:Option Addr) (c:Nat) (l:List UInt8) (w:World) (hr:Row w a (B8 l)) (hn:a=none→l.length=0∧c=0) (hc:l.length≤c) (hl:l.length≤100000) (hT:Tabs w) :
  Calls Tryz.prog 4 #[.int .i64 v,.slice a l.length c] w λe w'=>∃ u,e=.returned u∧jDv w.heap.size v l u w'∧Kept No w w':=by
 let RR:Ending→World→Prop:=λe w'=>∃ u,e=.returned u∧jDv w.heap.size v l u w'∧Kept No w w'
 go_enter Tryz.func4,Tryz.ntmps4
 generalize hA:({tmps:=_,defers:=[]}:Act)=A;have F:Fr A 27 [(1,(.slice a l.length c)),(0,(.int .i64 v))]:=by rw[← hA];exact (Fr.cons (i:=1) (v:=(.slice a l.length c)) (Fr.cons (i:=0) (v:=(.int .i64 v)) (Fr.nil0 rfl rfl) rfl) rfl)
 clear hA;have H:=Hp.start w;refine sg λK1 hK1=>?_;refine ja (c:=jP) (t:=27) F H rfl (jY rfl (zJ _)) ?_;clear F A;intro q4 W A hk hN H9 F;clear H;have H:=H9;clear H9;clear hk hN;refine zd ?_;intro A F;refine nn (hK1 _ _) ?_;refine wp_seq_k λK2 hK2=>?_;refine sg λK3 hK3=>?_;refine zd ?_;intro A F;refine jU F H rfl (j5 rfl rfl (j4 (F.e rfl) j8) jKv) (j3p v _) ?_;clear F H A;intro W A hk H F;clear hk;refine zd ?_;intro A F;refine nn (hK3 _ _) ?_;refine zc (λhb5=>?_) (λhb5=>?_)
 ·skip
  refine sg λK6 hK6=>?_;refine j3 (v:=(Pk.val ((zk 0)) ts)) F rfl (jV rfl js (by kernel_rfl)) ?_;intro A F;obtain ⟨W9,hr,hB,hk⟩:=j7 (P:=Tryz.prog) (S:=27) (c:=(Pk.cells ((zk 0)) ts)) _ (H.b.at_ (j:=0) rfl).1 (jM _) rfl (jO _ _);refine jW (jD rfl (F.e rfl) (F.e rfl) hr) ?_;clear hr;replace H:Hp _ _ [_]:=Hp.turn [] H hk hB;clear hk hB;refine zd ?_;intro A F;refine nn (hK6 _ _) ?_;refine j9 ?_;refine (show bodyPost _ Tryz.f4 RR Exit.ret _ _ from ?_);exact bodyPost_ret (qV rfl (F.g 4 _ rfl) (F.g 5 _ rfl) (jE ((Pk.cells ((zk 0)) ts)) rfl (jb _) (jM _) (λi=>H.cs 0 rfl i))) F.d ((by have hD:=jCs (l:=l) hb5;exact ⟨_,rfl,⟨ts,(by first|(rw[hD.1,hD.2];done)|(rw[hD.1,hD.2];rfl)),by rw[hD.2];exact Aw.zero _ _⟩,H.k⟩))
 refine wp_skip (hK2 _ _ ?_);refine sg λK7 hK7=>?_
 iterate 2 (refine zd ?_;intro A F)
 have hl4:=(H.b.at_ (j:=0) rfl).1.lt;have hs9:=H.size;refine vE (R:=j3l W.heap.size v l) F H rfl (j5 rfl rfl (j4 (F.e rfl) (j4 (F.e rfl) j8)) jOf) (j72 v a c l _ (hr.keptNo H.k) hn hc hl (hT.kept H.k)) ?_;clear F H A;intro vv W A hR hk H F;obtain ⟨s8,rfl,hA⟩:=hR;clear hk;obtain ⟨w9,KA,hA,hb4⟩:∃ w1,Kept No w1 W∧Aw _ (qK v l) s8 w1∧Blk w1 q4 27 jP:=⟨W,Kept.refl No W,hA,(H.b.at_ (j:=0) rfl).1⟩
 iterate 3 (refine zd ?_;intro A F)
 refine ja (c:=jP) (t:=27) F H rfl (jY rfl (zJ _)) ?_;clear F A;intro p6 W A hk hN H9 F;clear H;have H:=H9;clear H9;have hN_KA_p6:=Nat.le_trans KA.size hN;replace KA:=KA.trans hk;clear hk hN;obtain ⟨W9,hr,hB,hk⟩:=j7 (P:=Tryz.prog) (S:=27) (c:=(Pk.cells ((qK v l)) s8)) _ (H.b.at_ (j:=0) rfl).1 (jM _) rfl (jO _ _);refine jW (jD rfl (F.e rfl) (F.e rfl) hr) ?_;clear hr;replace H:Hp _ _ [_,_]:=Hp.turn [] H hk hB;replace KA:=KA.then hk (λi9 hi9 e9=>by have e9:i9=p6:=e9;have:=hN_KA_p6;omega);clear hk hB;refine zd ?_;intro A F;refine nn (hK7 _ _) ?_;refine wp_seq_k λK9 hK9=>?_;refine sg λK10 hK10=>?_
 iterate 2 (refine zd ?_;intro A F)
 refine nn (hK10 _ _) ?_;refine zc (λhb11=>?_) (λhb11=>?_)
 ·skip
  refine sg λK12 hK12=>?_;refine j3 (v:=(Pk.val ((zk 0)) ts)) F rfl (jV rfl js (by kernel_rfl)) ?_;intro A F;obtain ⟨W9,hr,hB,hk⟩:=j7 (P:=Tryz.prog) (S:=27) (c:=(Pk.cells ((zk 0)) ts)) _ (H.b.at_ (j:=1) rfl).1 (jM _) rfl (jO _ _);refine jW (jD rfl (F.e rfl) (F.e rfl) hr) ?_;clear hr;replace H:Hp _ _ [_,_]:=Hp.turn [_] H hk hB;clear hk hB;refine zd ?_;intro A F;refine nn (hK12 _ _) ?_;refine j9 ?_;refine (show bodyPost _ Tryz.f4 RR Exit.ret _ _ from ?_);exact bodyPost_ret (qV rfl (F.g 4 _ rfl) (F.g 5 _ rfl) (jE ((Pk.cells ((zk 0)) ts)) rfl (jb _) (jM _) (λi=>H.cs 1 rfl i))) F.d ((by have hD:=j9c hb5 hb11;exact ⟨_,rfl,⟨ts,(by first|(rw[hD.1,hD.2];done)|(rw[hD.1,hD.2];rfl)),by rw[hD.2];exact Aw.zero _ _⟩,H.k⟩))
 refine wp_skip (hK9 _ _ ?_);refine wp_seq_k λK13 hK13=>?_;refine sg λK14 hK14=>?_;refine zd ?_;intro A F;refine j3 F rfl (jB rfl (F.e rfl) (jE ((Pk.cells ((qK v l)) s8)) rfl (jb _) (jM _) (λi=>H.cs 0 rfl i))) ?_;intro A F;refine jU F H rfl (j5 rfl rfl (j4 (F.e rfl) (j4 (F.e rfl) j8)) jNr) (jA8 v (qK v l) s8 _ (hA.at_.kept KA) (xd hl).fit (hT.kept H.k)) ?_;clear F H A;intro W A hk H F;replace KA:=KA.trans hk;clear hk;refine zd ?_;intro A F;refine nn (hK14 _ _) ?_;refine zc (λhb16=>?_) (λhb16=>?_)
 ·skip
  replace F:=(((F.nil.cons (F.g 6 _ rfl)).cons (F.g 5 _ rfl)).cons (F.g 4 _ rfl))
  refine sg λK17 hK17=>?_;refine j3 (v:=(Pk.val ((zk 0)) ts)) F rfl (jV rfl js (by kernel_rfl)) ?_;intro A F;obtain ⟨W9,hr,hB,hk⟩:=j7 (P:=Tryz.prog) (S:=27) (c:=(Pk.cells ((zk 0)) ts)) _ (H.b.at_ (j:=1) rfl).1 (jM _) rfl (jO _ _);refine jW (jD rfl (F.e rfl) (F.e rfl) hr) ?_;clear hr;replace H:Hp _ _ [_,_]:=Hp.turn [_] H hk hB;clear hk hB;refine zd ?_;intro A F;refine nn (hK17 _ _) ?_;refine j9 ?_;refine (show bodyPost _ Tryz.f4 RR Exit.ret _ _ from ?_);exact bodyPost_ret (qV rfl (F.g 4 _ rfl) (F.g 5 _ rfl) (jE ((Pk.cells ((zk 0)) ts)) rfl (jb _) (jM _) (λi=>H.cs 1 rfl i))) F.d ((by have hD:=j6y hb5 hb11 hb16;exact ⟨_,rfl,⟨ts,(by first|(rw[hD.1,hD.2];done)|(rw[hD.1,hD.2];rfl)),by rw[hD.2];exact Aw.zero _ _⟩,H.k⟩))
 replace F:=(((F.nil.cons (F.g 6 _ rfl)).cons (F.g 5 _ rfl)).cons (F.g 4 _ rfl))
 refine wp_skip (hK13 _ _ ?_);refine sg λK18 hK18=>?_;refine j3 F rfl (jB rfl (F.e rfl) (jE ((Pk.cells ((qK v l)) s8)) rfl (jb _) (jM _) (λi=>H.cs 0 rfl i))) ?_;intro A F;obtain ⟨W9,hr,hB,hk⟩:=j7 (P:=Tryz.prog) (S:=27) (c:=(Pk.cells ((qK v l)) s8)) _ (H.b.at_ (j:=1) rfl).1 (jM _) rfl (jO _ _);refine jW (jD rfl (F.e rfl) (F.e rfl) hr) ?_;clear hr;replace H:Hp _ _ [_,_]:=Hp.turn [_] H hk hB;replace KA:=j8e KA hk;clear hk hB;refine zd ?_;intro A F;refine nn (hK18 _ _) ?_;refine j9 ?_;refine (show bodyPost _ Tryz.f4 RR Exit.ret _ _ from ?_);exact bodyPost_ret (qV rfl (F.g 4 _ rfl) (F.g 5 _ rfl) (jE ((Pk.cells ((qK v l)) s8)) rfl (jb _) (jM _) (λi=>H.cs 1 rfl i))) F.d ((by have hD:=jFq hb5 hb11 hb16;exact ⟨_,rfl,⟨s8,(by first|(rw[hD.1,hD.2];done)|(rw[hD.1,hD.2];rfl)),by rw[hD.2];exact hA.fin KA hb4 (jn (zk 0) ts) hl4 hs9⟩,H.k⟩))
open Go.RowKit
set_option linter.unusedVariables false
set_option linter.unusedSimpArgs false
set_option maxRecDepth 100000
theorem jGy (w:World):(isAgg 59).run Tryz.prog w=.ok true w:=by kernel_rfl
theorem j58 (w:World):(Go.sizeOf 59).run Tryz.prog w=.ok 4 w:=by kernel_rfl
theorem jCx:FAt Tryz.prog 66 1 1:=by
 intro B o w
 have u:=Tryz.underlying66
 go_simp
instance:FA 66 1 1:=⟨jCx⟩
theorem j84:FAt Tryz.prog 66 2 2:=by
 intro B o w
 have u:=Tryz.underlying66
 go_simp
instance:FA 66 2 2:=⟨j84⟩
theorem jKn (w:World):(Instr.alloc 59 true (.tuple #[])).run Tryz.prog w=.ok (.pointer (some ⟨w.heap.size,0,none⟩)) (w.alloc (.cells #[(.int .i64 0),(.int .u8 0),(.int .i64 0),(.int .i64 0)] 59)):=by kernel_rfl
theorem j0j:FN Tryz.prog 23:=jc Tryz.func23 (by kernel_rfl) rfl
theorem jOe:FN Tryz.prog 56:=jc Tryz.func56 (by kernel_rfl) rfl
theorem jGq:FN Tryz.prog 4:=jc Tryz.func4 (by kernel_rfl) rfl
def dq7:Pk:={zk 4 with id:=7}
theorem zX {w0 w:World} {M:List Bk} (H:Hp w0 w M) (qs:Array (Nat × Value)) (C:Array Value) (l:List UInt8) (n:Nat) (hB:∀ w,(Instr.buildSlice 22 n qs).run Tryz.prog w=.ok (.slice (some ⟨w.heap.size,0,none⟩) n n) (w.alloc (.cells C 5))) (hC:C.toList=B8 l):∃ b w1 w',(Instr.buildSlice 22 n qs).run Tryz.prog w=.ok (.slice (some ⟨b,0,none⟩) n n) w1∧(convert 22 22 (.slice (some ⟨b,0,none⟩) n n)).run Tryz.prog w1=.ok (.slice (some ⟨b,0,none⟩) n n) w'∧Row w' (some ⟨b,0,none⟩) (B8 l)∧Kept No w w':=by
 refine ⟨_,_,_,hB w,Lib.run_convert_bytes_const (P:=Tryz.prog) w 22 5 C n n Tryz.underlying22 Tryz.underlying5,?_,?_⟩
 ·refine .inr ⟨w.heap.size,0,rfl,by simp[World.alloc,-World.alloc_eq],λj u hj=>?_⟩
  have h1:(w.alloc (.cells C 5 (C.size,C.size+1))).heap[w.heap.size]?=some (.cells C 5 (C.size,C.size+1)):=by
   show (w.heap.push _)[w.heap.size]?=_;simp
  rw[← hC]at hj;unfold World.cell?;rw[h1];simpa using hj
 ·exact ⟨rfl,rfl,rfl,by simp[World.alloc,-World.alloc_eq],λk hk _=>by
   show (w.heap.push _)[k]?=_;rw[Array.getElem?_push,if_neg (by omega)]⟩
theorem jPq:j1n 4 [64,2,0,7]=0:=by decide +kernel
theorem jPu:xk 4 [64,2,0,7]=dq7:=by decide +kernel
theorem jPr:j1n 5 [64,3,0,7,0]=0:=by decide +kernel
theorem jPv:xk 5 [64,3,0,7,0]=dq7:=by decide +kernel
theorem jPs:j1n 4 [64,3,0,7,0]=3:=by decide +kernel
theorem jPw:xk 4 [64,3,0,7,0]=(zk 0):=by decide +kernel
theorem jPt:j1n 4 [64,2,0,0]=4:=by decide +kernel
theorem jPx:xk 4 [64,2,0,0]=(zk 0):=by decide +kernel
theorem jF6 (w:World) (hT:Tabs w):Calls Tryz.prog 8 #[] w λe w'=>e=.returned (.bool true)∧Kept No w w':=by
 let RR:Ending→World→Prop:=λe w'=>e=.returned (.bool true)∧Kept No w w'
 go_enter Tryz.func8,Tryz.ntmps8
 generalize hA:({tmps:=_,defers:=[]}:Act)=A;have F:Fr A 62 []:=by rw[← hA];exact (Fr.nil0 rfl rfl)
 clear hA;have H:=Hp.start w;refine sg λK1 hK1=>?_;refine zd ?_;intro A F;refine nn (hK1 _ _) ?_;refine sg λK2 hK2=>?_;obtain ⟨bM,W1,W9,hbd,hcv,hrM,hkM⟩:=zX H #[(0,.int .u8 64),(1,.int .u8 2),(2,.int .u8 0),(3,.int .u8 7)] #[.int .u8 64,.int .u8 2,.int .u8 0,.int .u8 7] [64,2,0,7] 4 (λw=>by kernel_rfl) (by kernel_rfl);refine j3 (v:=.slice (some ⟨bM,0,none⟩) 4 4) F rfl (qB rfl (j6 jA (j6 jA (j6 jA (j6 jA js)))) hbd) ?_;intro A F;refine j3 (v:=(.slice ((some ⟨bM,0,none⟩)) 4 4)) F rfl (q9 rfl (F.e rfl) hcv) ?_;intro A F;replace H:=H.kept hkM;clear hcv hkM hbd;refine vE (R:=λvv ww=>∃ s1,vv=.tuple #[Pk.val dq7 s1,.int .i64 0]) F H rfl (j5 rfl rfl (j4 jA (j4 (F.e rfl) j8)) jGq) ((xw 4 (some ⟨bM,0,none⟩) 4 [64,2,0,7] _ hrM (by intro h;cases h) (by decide) (by decide) (hT.kept H.k)).mono λe9 ww ⟨u,h91,⟨s1,h92,_⟩,h93⟩=>⟨u,h91,⟨s1,by rw[h92,jPq,jPu]⟩,h93⟩) ?_;clear F H A;intro vv W A hR hk H F;obtain ⟨s3,rfl⟩:=hR;clear hk
 iterate 3 (refine zd ?_;intro A F)
 refine ja (c:=jP) (t:=27) F H rfl (jY rfl (zJ _)) ?_;clear F A;intro b4 W A hk hN H9 F;clear H;have H:=H9;clear H9;clear hk hN;obtain ⟨W9,hr,hB,hk⟩:=j7 (P:=Tryz.prog) (S:=27) (c:=(Pk.cells dq7 s3)) _ (H.b.at_ (j:=0) rfl).1 (jM _) rfl (jO _ _);refine jW (jD rfl (F.e rfl) (F.e rfl) hr) ?_;clear hr;replace H:Hp _ _ [_]:=Hp.turn [] H hk hB;clear hk hB;refine zd ?_;intro A F;refine nn (hK2 _ _) ?_;refine sg λK5 hK5=>?_;obtain ⟨bM,W1,W9,hbd,hcv,hrM,hkM⟩:=zX H #[(0,.int .u8 64),(1,.int .u8 3),(2,.int .u8 0),(3,.int .u8 7),(4,.int .u8 0)] #[.int .u8 64,.int .u8 3,.int .u8 0,.int .u8 7,.int .u8 0] [64,3,0,7,0] 5 (λw=>by kernel_rfl) (by kernel_rfl);refine j3 (v:=.slice (some ⟨bM,0,none⟩) 5 5) F rfl (qB rfl (j6 jA (j6 jA (j6 jA (j6 jA (j6 jA js))))) hbd) ?_;intro A F;refine j3 (v:=(.slice ((some ⟨bM,0,none⟩)) 5 5)) F rfl (q9 rfl (F.e rfl) hcv) ?_;intro A F;replace H:=H.kept hkM;clear hcv hkM hbd;refine vE (R:=λvv ww=>∃ s1,vv=.tuple #[Pk.val dq7 s1,.int .i64 0]) F H rfl (j5 rfl rfl (j4 jA (j4 (F.e rfl) j8)) jGq) ((xw 5 (some ⟨bM,0,none⟩) 5 [64,3,0,7,0] _ hrM (by intro h;cases h) (by decide) (by decide) (hT.kept H.k)).mono λe9 ww ⟨u,h91,⟨s1,h92,_⟩,h93⟩=>⟨u,h91,⟨s1,by rw[h92,jPr,jPv]⟩,h93⟩) ?_;clear F H A;intro vv W A hR hk H F;obtain ⟨s6,rfl⟩:=hR;clear hk
 iterate 3 (refine zd ?_;intro A F)
 refine ja (c:=jP) (t:=27) F H rfl (jY rfl (zJ _)) ?_;clear F A;intro b7 W A hk hN H9 F;clear H;have H:=H9;clear H9;clear hk hN;obtain ⟨W9,hr,hB,hk⟩:=j7 (P:=Tryz.prog) (S:=27) (c:=(Pk.cells dq7 s6)) _ (H.b.at_ (j:=0) rfl).1 (jM _) rfl (jO _ _);refine jW (jD rfl (F.e rfl) (F.e rfl) hr) ?_;clear hr;replace H:Hp _ _ [_,_]:=Hp.turn [] H hk hB;clear hk hB;refine zd ?_;intro A F;refine nn (hK5 _ _) ?_;refine sg λK8 hK8=>?_;obtain ⟨bM,W1,W9,hbd,hcv,hrM,hkM⟩:=zX H #[(0,.int .u8 64),(1,.int .u8 3),(2,.int .u8 0),(3,.int .u8 7),(4,.int .u8 0)] #[.int .u8 64,.int .u8 3,.int .u8 0,.int .u8 7,.int .u8 0] [64,3,0,7,0] 5 (λw=>by kernel_rfl) (by kernel_rfl);refine j3 (v:=.slice (some ⟨bM,0,none⟩) 5 5) F rfl (qB rfl (j6 jA (j6 jA (j6 jA (j6 jA (j6 jA js))))) hbd) ?_;intro A F;refine j3 (v:=(.slice ((some ⟨bM,0,none⟩)) 5 5)) F rfl (q9 rfl (F.e rfl) hcv) ?_;intro A F;replace H:=H.kept hkM;clear hcv hkM hbd;refine vE (R:=λvv ww=>∃ s1,vv=.tuple #[Pk.val (zk 0) s1,.int .i64 3]) F H rfl (j5 rfl rfl (j4 jA (j4 (F.e rfl) j8)) jGq) ((xw 4 (some ⟨bM,0,none⟩) 5 [64,3,0,7,0] _ hrM (by intro h;cases h) (by decide) (by decide) (hT.kept H.k)).mono λe9 ww ⟨u,h91,⟨s1,h92,_⟩,h93⟩=>⟨u,h91,⟨s1,by rw[h92,jPs,jPw]⟩,h93⟩) ?_;clear F H A;intro vv W A hR hk H F;obtain ⟨s9,rfl⟩:=hR;clear hk
 iterate 3 (refine zd ?_;intro A F)
 refine ja (c:=jP) (t:=27) F H rfl (jY rfl (zJ _)) ?_;clear F A;intro b10 W A hk hN H9 F;clear H;have H:=H9;clear H9;clear hk hN;obtain ⟨W9,hr,hB,hk⟩:=j7 (P:=Tryz.prog) (S:=27) (c:=(Pk.cells ((zk 0)) s9)) _ (H.b.at_ (j:=0) rfl).1 (jM _) rfl (jO _ _);refine jW (jD rfl (F.e rfl) (F.e rfl) hr) ?_;clear hr;replace H:Hp _ _ [_,_,_]:=Hp.turn [] H hk hB;clear hk hB;refine zd ?_;intro A F;refine nn (hK8 _ _) ?_;refine sg λK11 hK11=>?_;obtain ⟨bM,W1,W9,hbd,hcv,hrM,hkM⟩:=zX H #[(0,.int .u8 64),(1,.int .u8 2),(2,.int .u8 0),(3,.int .u8 0)] #[.int .u8 64,.int .u8 2,.int .u8 0,.int .u8 0] [64,2,0,0] 4 (λw=>by kernel_rfl) (by kernel_rfl);refine j3 (v:=.slice (some ⟨bM,0,none⟩) 4 4) F rfl (qB rfl (j6 jA (j6 jA (j6 jA (j6 jA js)))) hbd) ?_;intro A F;refine j3 (v:=(.slice ((some ⟨bM,0,none⟩)) 4 4)) F rfl (q9 rfl (F.e rfl) hcv) ?_;intro A F;replace H:=H.kept hkM;clear hcv hkM hbd;refine vE (R:=λvv ww=>∃ s1,vv=.tuple #[Pk.val (zk 0) s1,.int .i64 4]) F H rfl (j5 rfl rfl (j4 jA (j4 (F.e rfl) j8)) jGq) ((xw 4 (some ⟨bM,0,none⟩) 4 [64,2,0,0] _ hrM (by intro h;cases h) (by decide) (by decide) (hT.kept H.k)).mono λe9 ww ⟨u,h91,⟨s1,h92,_⟩,h93⟩=>⟨u,h91,⟨s1,by rw[h92,jPt,jPx]⟩,h93⟩) ?_;clear F H A;intro vv W A hR hk H F;obtain ⟨s12,rfl⟩:=hR;clear hk
 iterate 3 (refine zd ?_;intro A F)
 refine ja (c:=jP) (t:=27) F H rfl (jY rfl (zJ _)) ?_;clear F A;intro b13 W A hk hN H9 F;clear H;have H:=H9;clear H9;clear hk hN;obtain ⟨W9,hr,hB,hk⟩:=j7 (P:=Tryz.prog) (S:=27) (c:=(Pk.cells ((zk 0)) s12)) _ (H.b.at_ (j:=0) rfl).1 (jM _) rfl (jO _ _);refine jW (jD rfl (F.e rfl) (F.e rfl) hr) ?_;clear hr;replace H:Hp _ _ [_,_,_,_]:=Hp.turn [] H hk hB;clear hk hB;refine zd ?_;intro A F;refine nn (hK11 _ _) ?_;refine sg λK14 hK14=>?_;refine zd ?_;intro A F;refine zb (jG) ?_;intro A F;refine zd ?_;intro A F;refine vC F rfl (je F rfl rfl rfl) (qQ rfl (F.e rfl)) ?_;intro A F;refine vC F rfl (je F rfl rfl rfl) (jF rfl (F.e rfl) jA (jG)) ?_;intro A F;refine j3 F rfl (vD rfl (F.e rfl) (F.e rfl)) ?_;intro A F;refine zd ?_;intro A F;refine vC F rfl (je F rfl rfl rfl) (qp rfl (F.e rfl) (j83 _ _ _)) ?_;intro A F;refine vC F rfl (je F rfl rfl rfl) (jB rfl (F.e rfl) (qE (jFd _) (H.c 3 rfl rfl))) ?_;intro A F;refine vC F rfl (je F rfl rfl rfl) (jF rfl (F.e rfl) jA (jt (i:=dq7.id) (j:=7))) ?_;intro A F;have hr15:(decide (dq7.id=7))=true:=(by decide)
 replace F:=F.hd (congrArg Value.bool hr15);refine j3 F rfl (vD rfl (F.e rfl) (F.e rfl)) ?_;intro A F;refine zd ?_;intro A F;refine vC F rfl (je F rfl rfl rfl) (qp rfl (F.e rfl) (j83 _ _ _)) ?_;intro A F;refine vC F rfl (je F rfl rfl rfl) (jB rfl (F.e rfl) (qE (jFd _) (H.c 2 rfl rfl))) ?_;intro A F;refine vC F rfl (je F rfl rfl rfl) (jF rfl (F.e rfl) jA (jt (i:=dq7.id) (j:=7))) ?_;intro A F;replace F:=F.hd (congrArg Value.bool hr15);refine j3 F rfl (vD rfl (F.e rfl) (F.e rfl)) ?_;intro A F;refine zd ?_;intro A F;refine vC F rfl (je F rfl rfl rfl) (qp rfl (F.e rfl) (jCu _ _ _)) ?_;intro A F;refine vC F rfl (je F rfl rfl rfl) (jB rfl (F.e rfl) (qE (j4q _) (H.c 3 rfl rfl))) ?_;intro A F;refine vC F rfl (je F rfl rfl rfl) (jF rfl (F.e rfl) jA (jG)) ?_;intro A F;have hr16:(decide (dq7.kind=4))=true:=(by decide)
 replace F:=F.hd (congrArg Value.bool hr16);refine j3 F rfl (vD rfl (F.e rfl) (F.e rfl)) ?_;intro A F;refine zd ?_;intro A F;refine vC F rfl (je F rfl rfl rfl) (qQ rfl (F.e rfl)) ?_;intro A F;refine vC F rfl (je F rfl rfl rfl) (jF rfl (F.e rfl) jA (jG)) ?_;intro A F;refine j3 F rfl (vD rfl (F.e rfl) (F.e rfl)) ?_;intro A F;refine zd ?_;intro A F;refine vC F rfl (je F rfl rfl rfl) (qQ rfl (F.e rfl)) ?_;intro A F;refine vC F rfl (je F rfl rfl rfl) (jF rfl (F.e rfl) jA (jG)) ?_;intro A F;refine j3 F rfl (vD rfl (F.e rfl) (F.e rfl)) ?_;intro A F;refine zd ?_;intro A F;refine nn (hK14 _ _) ?_;refine j9 ?_;refine (show bodyPost _ Tryz.f8 RR Exit.ret _ _ from zr ?_);exact ⟨by first|rfl|simp,H.k⟩
end Go.Proofs.YtnehnjklgglliaaGreatDoor
