import Derived.Test.YtnehnjklgglliaaGreatDoorYFW
import Derived.Test.YtnehnjklgglliaaGreatDoorYF7
import Derived.Test.YtnehnjklgglliaaGreatDoorYF1
import Derived.Test.YtnehnjklgglliaaGreatDoorYFK
import Derived.Test.YtnehnjklgglliaaGreatDoorYF8
import Derived.Test.YtnehnjklgglliaaGreatDoorYFS
namespace Go.Proofs.YtnehnjklgglliaaGreatDoor
set_option maxHeartbeats 4000000
open Go.RowKit
set_option linter.unusedVariables false
set_option linter.unusedSimpArgs false
set_option maxRecDepth 100000
structure Ts where
 l:List UInt8
 e:Int
 b:Bool
namespace Ts
def num (n:Int) (s:Ts):Nat:=Go.Proofs.YtnehnjklgglliaaGreatDoor.num (jL n s.l s.e)
def rd (n:Int) (s:Ts):Ts:=⟨jX n s.l s.e,jT n s.l s.e,s.b⟩
def bin (s:Ts):ByteArray:=⟨(jh s.l s.e).toArray⟩
def rdB (s:Ts):Ts:=⟨vM s.l s.e,vH s.l s.e,s.b⟩
def need (s:Ts) (x:Bool):Ts:=⟨s.l,s.e,s.b||!x⟩
def rdT (s:Ts):Ts:=s.rdB.need (jm s.bin)
def sec (v:Int) (s:Ts):List Pr:=if v=4 then [] else (qd s.l s.e).1
def rdS (v:Int) (s:Ts):Ts:=if v=4 then s else Ts.need ⟨qz s.l s.e,qu s.l s.e,s.b⟩ (qd s.l s.e).2
def rest (s:Ts):ByteArray:=⟨s.l.toArray⟩
def rdR (s:Ts):Ts:=⟨[],s.e,s.b⟩
def ok (s:Ts):Bool:=!s.b&&decide (s.e=0)
end Ts
def qg (v:Int) (p:Pk) (s:Ts):Pk × Ts :=
 if v=4∨s.l.length=0 then (p,s) else if (s.rd 1).l.length=0 then ({p with code:=s.num 1},s.rd 1) else ({p with code:=s.num 1,props:=(s.rd 1).sec v},(s.rd 1).rdS v)
def qc (k:Int):Nat→Ts→List Fi × Ts
 | 0,s=>([],s)
 | n+1,s=>if s.ok=true∧0<s.l.length then
   (⟨s.bin,if k=8 then s.rdT.num 1 else 0⟩ :: (qc k n (if k=8 then s.rdT.rd 1 else s.rdT)).1,(qc k n (if k=8 then s.rdT.rd 1 else s.rdT)).2) else ([],s)
theorem j4z {k:Int} {s:Ts} (h:¬ (s.ok=true∧0<s.l.length)):∀ n,qc k n s=([],s)
 | 0=>rfl
 | n+1=>if_neg h
theorem j9g {k:Int} {s:Ts} {n:Nat} (h:s.ok=true∧0<s.l.length):qc k (n+1) s=(⟨s.bin,if k=8 then s.rdT.num 1 else 0⟩ :: (qc k n (if k=8 then s.rdT.rd 1 else s.rdT)).1,(qc k n (if k=8 then s.rdT.rd 1 else s.rdT)).2):=if_pos h
theorem zP (n:Int) (l:List UInt8) (e:Int):(jX n l e).length≤l.length:=by
 unfold jX
 split
 ·split
  ·rw[List.length_drop];omega
  ·simp
 ·exact Nat.le_refl _
theorem jMx {s:Ts} (h:s.ok=true∧0<s.l.length):s.rdT.l.length<s.l.length:=by
 obtain ⟨h1,h0⟩:=h
 have he:s.e=0:=by
  unfold Ts.ok at h1;simp only[aE9,dE9]at h1;exact h1.2
 have h2:(jX 2 s.l s.e).length<s.l.length:=by
  unfold jX;rw[if_pos he]
  split
  ·rw[List.length_drop];omega
  ·simpa using h0
 exact Nat.lt_of_le_of_lt (zP _ _ _) h2
theorem jGn {k:Int} {s:Ts} (h:s.ok=true∧0<s.l.length):(if k=8 then s.rdT.rd 1 else s.rdT).l.length<s.l.length:=by
 have h1:=jMx h
 split
 ·exact Nat.lt_of_le_of_lt (zP _ _ _) h1
 ·exact h1
theorem zY {k:Int} {N n:Nat} {S s s':Ts} {acc:List Fi} {o:Nat} (hf:qc k N S=(acc++(qc k n s).1,(qc k n s).2)) (hn:s.l.length≤n) (h:s.ok=true∧0<s.l.length) (ho:o=if k=8 then s.rdT.num 1 else 0) (hs:s'=if k=8 then s.rdT.rd 1 else s.rdT) :
  qc k N S=((acc++[⟨s.bin,o⟩])++(qc k (n - 1) s').1,(qc k (n - 1) s').2)∧s'.l.length≤n - 1:=by
 have h2:=jGn (k:=k) h;obtain ⟨m,rfl⟩:∃ m,n=m+1:=⟨n - 1,by omega⟩
 subst ho hs;rw[hf,j9g h,Nat.add_sub_cancel];refine ⟨by simp,by omega⟩
theorem j3b {k:Int} {N n:Nat} {S s:Ts} {acc:List Fi} (hf:qc k N S=(acc++(qc k n s).1,(qc k n s).2)) (h:¬ (s.ok=true∧0<s.l.length)):qc k N S=(acc,s):=by
 rw[hf,j4z h];simp
def z8 (v:Int) (f:Nat) (p:Pk) (s:Ts):Pk × Ts :=
 if (!decide (f &&& 4=0))=true then
  ({p with hasWill:=!decide (f &&& 4=0),willQoS:=f / 8 &&& 3,willRetain:=!decide (f &&& 32=0),willProps:=s.sec v,willTopic:=(s.rdS v).bin,willLoad:=(s.rdS v).rdT.bin},(s.rdS v).rdT.rdB)
 else ({p with hasWill:=!decide (f &&& 4=0)},s.need (decide (f &&& 56=0)))
def zU (f:Nat) (p:Pk) (s:Ts):Pk × Ts :=
 if (!decide (f &&& 128=0))=true then ({p with hasUser:=!decide (f &&& 128=0),user:=s.bin},s.rdT) else ({p with hasUser:=!decide (f &&& 128=0)},s)
def j2u (f:Nat) (p:Pk) (s:Ts):Pk × Ts :=
 if (!decide (f &&& 64=0))=true then ({p with hasPass:=!decide (f &&& 64=0),pass:=s.bin},s.rdB) else ({p with hasPass:=!decide (f &&& 64=0)},s)
def jE1 (v:Int) (s:Ts):Ts:=((s.rdB.need (decide (s.bin=jEf))).rd 1).need (decide (((s.rdB.need (decide (s.bin=jEf))).num 1:Int)=v))
def zq (v:Int) (s:Ts):Pk × Ts :=
 let s2:=jE1 v s;let f:=s2.num 1;let s3:=(s2.rd 1).need (decide (f &&& 1=0));let s5:=(s3.rd 2).rdS v;let w:=z8 v f {zk 1 with clean:=!decide (f &&& 2=0),keep:=s3.num 2,props:=(s3.rd 2).sec v,client:=s5.bin} s5.rdT;let u:=zU f w.1 w.2
 j2u f u.1 u.2
def zK (v:Int) (s:Ts):Pk × Ts :=
 let s1:=(s.rd 1).need (decide (s.num 1≤1))
 ({zk 2 with present:=decide (s.num 1=1),code:=s1.num 1,props:=(s1.rd 1).sec v},(s1.rd 1).rdS v)
def j3t (v:Int) (f:Nat) (s:Ts):Pk × Ts :=
 let s1:=s.rdT;let s2:=if (f / 2 &&& 3)=0 then s1 else s1.rd 2
 ({zk 3 with dup:=!decide (f &&& 8=0),qos:=f / 2 &&& 3,retain:=!decide (f &&& 1=0),topic:=s.bin,id:=if (f / 2 &&& 3)=0 then 0 else s1.num 2,props:=s2.sec v,load:=(s2.rdS v).rest},(s2.rdS v).rdR)
def qR (v k:Int) (f:Nat) (s:Ts):Pk × Ts :=
 if k=1 then zq v s
 else if k=2 then zK v s
 else if k=3 then j3t v f s
 else if k=4∨k=5∨k=6∨k=7 then qg v {zk k with id:=s.num 2} (s.rd 2)
 else if k=8∨k=10 then ({zk k with id:=s.num 2,props:=(s.rd 2).sec v,filters:=(qc k ((s.rd 2).rdS v).l.length ((s.rd 2).rdS v)).1},(qc k ((s.rd 2).rdS v).l.length ((s.rd 2).rdS v)).2)
 else if k=9∨k=11 then ({zk k with id:=s.num 2,props:=(s.rd 2).sec v,codes:=((s.rd 2).rdS v).l},((s.rd 2).rdS v).rdR)
 else if k=14∨k=15 then qg v (zk k) s
 else (zk k,s)
structure Hd where
 kind:Int
 flags:Nat
 head:Int
 rest:Nat
def j0k (b:List UInt8):Nat × List UInt8 × Int:=rv 4 0 0 (jX 1 b 0) (jT 1 b 0)
def vK (b:List UInt8):Int:=(j0k (b.take 5)).2.2
def qL (b:List UInt8):Hd :=
 if vK b=0 then ⟨((num (jL 1 (b.take 5) 0) / 16:Nat):Int),num (jL 1 (b.take 5) 0) % 16,((b.take 5).length:Int) - ((j0k (b.take 5)).2.1.length:Int),(j0k (b.take 5)).1⟩ else ⟨0,0,0,0⟩
def vX (v:Int) (h:Hd):Bool :=
 if !(decide (v=4)||decide (v=5))||(decide (h.kind=0)||(decide (v=4)&&decide (h.kind=15))) then false
 else if h.kind=3 then true else if h.kind=6∨h.kind=8∨h.kind=10 then decide (h.flags=2) else decide (h.flags=0)
def j71 (v:Int) (b:List UInt8):Pk × Ts:=qR v (qL b).kind (qL b).flags ⟨b.drop (qL b).head.toNat,0,false⟩
def qn (v:Int) (b:List UInt8):Bool :=
 decide (vK b=0)&&(decide ((b.length:Int)=(qL b).head+(qL b).rest)&&(vX v (qL b)&&((j71 v b).2.ok&&decide ((j71 v b).2.l.length=0))))
def qK (v:Int) (b:List UInt8):Pk:=if qn v b=true then (j71 v b).1 else zk 0
def j1n (v:Int) (b:List UInt8):Int:=if v=4∨v=5 then (if qn v b=true then (if zn v (qK v b)=true then 0 else 4) else 3) else 1
def xk (v:Int) (b:List UInt8):Pk:=if j1n v b=0 then qK v b else zk 0
open Go.RowKit
set_option linter.unusedVariables false
set_option linter.unusedSimpArgs false
set_option maxRecDepth 100000
theorem ne9 {a b:Nat} (h:Nat.beq a b=false):a≠b:=λe=>by rw[e,Nat.beq_refl]at h;cases h
def Tt (t r:Nat):Nat→Prop:=λk=>k=t∨k=r
def Tq (t q r:Nat):Nat→Prop:=λk=>k=t∨k=q∨k=r
structure Rk (w:World) (T:Nat→Prop) (r:Nat) (S:Ts) (W:World):Prop where
 n:S.l.length≤100000
 r:Rdr W r S.l S.e
 k:Kept T w W
structure Rd (B:ByteArray) (w:World) (T:Nat→Prop) (r:Nat) (S:Ts) (W:World):Prop where
 n:S.l.length≤100000
 r:RefR W r B S.l S.e
 k:Kept T w W
section
variable {w w0 W W':World} {T T':Nat→Prop} {r t q b:Nat} {S S':Ts} {M M':List Bk} {ty:TypeId} {c ct cq:Array Value} {B:ByteArray} {l:List UInt8} {e:Int}
theorem j1d (l:List UInt8) (e:Int):(qz l e).length≤l.length:=Nat.le_trans (zP _ _ _) (j26 4 0 0 l e).length_le
theorem j7f (n:Int) (S:Ts):(S.rd n).l.length≤S.l.length:=zP _ _ _
theorem j8o (S:Ts):S.rdB.l.length≤S.l.length:=Nat.le_trans (zP _ _ _) (zP _ _ _)
theorem jHk (v:Int) (S:Ts):(S.rdS v).l.length≤S.l.length:=by
 unfold Ts.rdS
 split
 ·exact Nat.le_refl _
 ·exact j1d _ _
theorem Rdr.blk (h:Rdr W r l e):∃ c,Blk W r 97 c:=by obtain ⟨a,c,hb,_⟩:=h;exact ⟨_,hb⟩
theorem RefR.blk (h:RefR W r B l e):∃ c,Blk W r 66 c:=by obtain ⟨a,hb,_⟩:=h;exact ⟨_,hb⟩
theorem Rk.no (h:Rk w T r S W) (hk:Kept No W W'):Rk w T r S W':=⟨h.n,h.r.keptNo hk,h.k.then hk (λ_ _ f=>f.elim)⟩
theorem Rd.no (h:Rd B w T r S W) (hk:Kept No W W'):Rd B w T r S W':=⟨h.n,h.r.kept hk (λf=>f),h.k.then hk (λ_ _ f=>f.elim)⟩
theorem Rk.st (h:Rk w T r S W) (hb:Blk W b ty c) (h1:ty≠5) (h2:ty≠97) (hT:w.heap.size≤b∨T b) (hk:Kept (One b) W W'):Rk w T r S W':=by
 obtain ⟨c9,hr⟩:=h.r.blk;refine ⟨h.n,h.r.keptTyp hk (λe=>?_) (λk e cs fz hx=>?_),h.k.then hk (λi hi e=>?_)⟩
 ·have e:r=b:=e
  subst e;exact h2 (vQ hb hr)
 ·have e:k=b:=e
  subst e;unfold Blk at hb;rw[hb]at hx;injection hx with hx;injection hx with _ h _;exact h1 h
 ·have e:i=b:=e
  subst e;exact hT.resolve_left (by omega)
theorem Rd.st (h:Rd B w T r S W) (hb:Blk W b ty c) (h1:ty≠5) (h2:ty≠66) (hT:w.heap.size≤b∨T b) (hk:Kept (One b) W W'):Rd B w T r S W':=by
 obtain ⟨c9,hr⟩:=h.r.blk;refine ⟨h.n,h.r.kept hk (λe=>?_),h.k.then hk (λi hi e=>?_)⟩
 ·have e:r=b:=e
  subst e;exact h2 (vQ hb hr)
 ·have e:i=b:=e
  subst e;exact hT.resolve_left (by omega)
theorem Rk.step (h:Rk w T r S W) (h2:Rk W T' r S' W') (hT:∀ i,T' i→T i):Rk w T r S' W':=⟨h2.n,h2.r,h.k.then h2.k (λi _ e=>hT i e)⟩
theorem Rd.step (h:Rd B w T r S W) (h2:Rd B W T' r S' W') (hT:∀ i,T' i→T i):Rd B w T r S' W':=⟨h2.n,h2.r,h.k.then h2.k (λi _ e=>hT i e)⟩
theorem Rk.gr {e9:TypeId} {k n B9:Nat} {v:Value} {xs:List Value} (h:Rk w T r S W) (hO:W.ownsRow B9 e9 k v n xs) (hB:w.heap.size≤B9) (h1:e9≠5) (h2:e9≠97) (hk:Kept (Sv v) W W'):Rk w T r S W':=by
 obtain ⟨c9,hr⟩:=h.r.blk;refine ⟨h.n,h.r.keptTyp hk (λe=>?_) (λb e cs fz hx=>?_),h.k.then hk (λi hi e=>?_)⟩
 ·obtain ⟨cur,hc⟩:=zG hO e
  exact h2 (vQ hc hr)
 ·obtain ⟨cur,hc⟩:=zG hO e
  rw[hc]at hx;injection hx with hx;injection hx with _ hq _;exact h1 hq
 ·have:=(hO.lt i e).1
  omega
theorem Rd.gr {e9:TypeId} {k n B9:Nat} {v:Value} {xs:List Value} (h:Rd B w T r S W) (hO:W.ownsRow B9 e9 k v n xs) (hB:w.heap.size≤B9) (h2:e9≠66) (hk:Kept (Sv v) W W'):Rd B w T r S W':=by
 obtain ⟨c9,hr⟩:=h.r.blk;refine ⟨h.n,h.r.kept hk (λe=>?_),h.k.then hk (λi hi e=>?_)⟩
 ·obtain ⟨cur,hc⟩:=zG hO e
  exact h2 (vQ hc hr)
 ·have:=(hO.lt i e).1
  omega
theorem jDm {e9:TypeId} {k n B9:Nat} {v:Value} {xs:List Value} (hO:W.ownsRow B9 e9 k v n xs) (hk:Kept T W W') (hT:∀ i,T i→∃ ty c,Blk W i ty c∧ty≠e9):W'.ownsRow B9 e9 k v n xs :=
 jDo hO hk (λg cur hi hc=>by
  obtain ⟨ty,c,hB,hne⟩:=hT g hi;exact hne (vQ hB (show Blk W g e9 cur from hc)))
theorem oT1 {rd e9:TypeId} (hr:∃ c,Blk W r rd c) (h:rd≠e9):∀ i,One r i→∃ ty c,Blk W i ty c∧ty≠e9:=λi hi=>by
 obtain ⟨c9,h9⟩:=hr;rw[show i=r from hi];exact ⟨_,_,h9,h⟩
theorem oT2 {rd tk e9:TypeId} (hr:∃ c,Blk W r rd c) (h:rd≠e9) (ht:Blk W t tk ct) (h2:tk≠e9):∀ i,Tt t r i→∃ ty c,Blk W i ty c∧ty≠e9:=λi hi=>by
 rcases hi with hi|hi
 ·rw[hi];exact ⟨_,_,ht,h2⟩
 ·exact oT1 hr h i hi
theorem Rk.stepq (h:Rk w (Tt t r) r S W) (h2:Rk W (Tq t q r) r S' W') (hq:w.heap.size≤q):Rk w (Tt t r) r S' W':=⟨h2.n,h2.r,h.k.then h2.k (λi hi e=>by
 rcases e with e|e|e
 ·exact .inl e
 ·omega
 ·exact .inr e)⟩
theorem Rk.start (h:Rdr w r S.l S.e) (hn:S.l.length≤100000):Rk w T r S w:=⟨hn,h,Kept.refl _ _⟩
theorem Rd.start (h:RefR w r B S.l S.e) (hn:S.l.length≤100000):Rd B w T r S w:=⟨hn,h,Kept.refl _ _⟩
theorem tt1 (i:Nat) (h:One r i):Tt t r i:=.inr h
theorem tq1 (i:Nat) (h:One r i):Tq t q r i:=.inr (.inr h)
theorem tq2 (i:Nat) (h:Tt t r i):Tq t q r i:=h.elim .inl (λe=>.inr (.inr e))
theorem tq3 (i:Nat) (h:Tq t q r i):Tq t q r i:=h
theorem tt2 (i:Nat) (h:Tt t r i):Tt t r i:=h
def Re (W W':World):List Bk→List Bk→Prop
 | [],[]=>True
 | x :: l,y :: l'=>(y.b=x.b∧(Blk W x.b x.t x.c→Blk W' y.b y.t y.c))∧Re W W' l l'
 | _,_=>False
theorem Hps.re:∀ {M M':List Bk},Hps w0 W M→Re W W' M M'→Hps w0 W' M'∧∀ y∈M',∃ x∈M,x.b=y.b
 | [],[],_,_=>⟨trivial,by simp⟩
 | x :: l,y :: l',h,hr=>by
  obtain ⟨h1,h2⟩:=Hps.re h.2.2.2 hr.2;refine ⟨⟨hr.1.2 h.1,hr.1.1▸h.2.1,λz hz=>?_,h1⟩,λz hz=>?_⟩
  ·obtain ⟨x',hx',e⟩:=h2 z hz
   rw[← e,hr.1.1];exact h.2.2.1 x' hx'
  ·rcases List.mem_cons.1 hz with rfl|hz
   ·exact ⟨x,List.mem_cons_self ..,hr.1.1.symm⟩
   ·obtain ⟨x',hx',e⟩:=h2 z hz
    exact ⟨x',List.mem_cons_of_mem _ hx',e⟩
theorem Hp.re (H:Hp w0 W M) (hk:Kept T W W') (hT:∀ i,T i→w0.heap.size≤i) (h:Re W W' M M'):Hp w0 W' M' :=
 ⟨H.k.then hk (λi hi e=>by have:=hT i e;omega),(H.b.re h).1⟩
theorem nT1 (hr:∃ c,Blk W r 97 c) (h2:ty≠97) (hb:Blk W b ty c):¬ One r b:=λe=>by
 obtain ⟨c9,hr⟩:=hr;have e:b=r:=e;subst e;exact h2 (vQ hb hr)
theorem nT2 (hr:∃ c,Blk W r 97 c) (h2:ty≠97) {tk:TypeId} (ht:Blk W t tk ct) (h3:ty≠tk) (hb:Blk W b ty c):¬ Tt t r b:=λe=>by
 rcases e with e|e
 ·subst e;exact h3 (vQ hb ht)
 ·exact nT1 hr h2 hb e
theorem nT3 (hr:∃ c,Blk W r 97 c) (h2:ty≠97) {tk:TypeId} (ht:Blk W t tk ct) (h3:ty≠tk) {tp:TypeId} (hq:Blk W q tp cq) (h4:ty≠tp) (hb:Blk W b ty c):¬ Tq t q r b:=λe=>by
 rcases e with e|e|e
 ·subst e;exact h3 (vQ hb ht)
 ·subst e;exact h4 (vQ hb hq)
 ·exact nT1 hr h2 hb e
theorem nT4 (hr:∃ c,Blk W r 97 c) (h2:ty≠97) {tk:TypeId} (ht:Blk W t tk ct) (h3:ty≠tk) (h4:b≠q) (hb:Blk W b ty c):¬ Tq t q r b:=λe=>by
 rcases e with e|e|e
 ·subst e;exact h3 (vQ hb ht)
 ·exact h4 e
 ·exact nT1 hr h2 hb e
theorem mT1 (hr:∃ c,Blk W r 66 c) (h2:ty≠66) (hb:Blk W b ty c):¬ One r b:=λe=>by
 obtain ⟨c9,hr⟩:=hr;have e:b=r:=e;subst e;exact h2 (vQ hb hr)
theorem mT2 (hr:∃ c,Blk W r 66 c) (h2:ty≠66) {tk:TypeId} (ht:Blk W t tk ct) (h3:ty≠tk) (hb:Blk W b ty c):¬ Tt t r b:=λe=>by
 rcases e with e|e
 ·subst e;exact h3 (vQ hb ht)
 ·exact mT1 hr h2 hb e
theorem mT3 (hr:∃ c,Blk W r 66 c) (h2:ty≠66) {tk:TypeId} (ht:Blk W t tk ct) (h3:ty≠tk) {tp:TypeId} (hq:Blk W q tp cq) (h4:ty≠tp) (hb:Blk W b ty c):¬ Tq t q r b:=λe=>by
 rcases e with e|e|e
 ·subst e;exact h3 (vQ hb ht)
 ·subst e;exact h4 (vQ hb hq)
 ·exact mT1 hr h2 hb e
theorem mT4 (hr:∃ c,Blk W r 66 c) (h2:ty≠66) {tk:TypeId} (ht:Blk W t tk ct) (h3:ty≠tk) (h4:b≠q) (hb:Blk W b ty c):¬ Tq t q r b:=λe=>by
 rcases e with e|e|e
 ·subst e;exact h3 (vQ hb ht)
 ·exact h4 e
 ·exact mT1 hr h2 hb e
theorem kP1 (hk:Kept (One r) W W') (hr:∃ c,Blk W r 97 c) (h2:ty≠97):b=b∧(Blk W b ty c→Blk W' b ty c):=⟨rfl,λhb=>hb.kept hk (nT1 hr h2 hb)⟩
theorem kP2 (hk:Kept (Tt t r) W W') (hr:∃ c,Blk W r 97 c) (h2:ty≠97) {tk:TypeId} (ht:Blk W t tk ct) (h3:ty≠tk):b=b∧(Blk W b ty c→Blk W' b ty c):=⟨rfl,λhb=>hb.kept hk (nT2 hr h2 ht h3 hb)⟩
theorem kP3 (hk:Kept (Tq t q r) W W') (hr:∃ c,Blk W r 97 c) (h2:ty≠97) {tk:TypeId} (ht:Blk W t tk ct) (h3:ty≠tk) {tp:TypeId} (hq:Blk W q tp cq) (h4:ty≠tp):b=b∧(Blk W b ty c→Blk W' b ty c):=⟨rfl,λhb=>hb.kept hk (nT3 hr h2 ht h3 hq h4 hb)⟩
theorem kP4 (hk:Kept (Tq t q r) W W') (hr:∃ c,Blk W r 97 c) (h2:ty≠97) {tk:TypeId} (ht:Blk W t tk ct) (h3:ty≠tk) (h4:b≠q):b=b∧(Blk W b ty c→Blk W' b ty c):=⟨rfl,λhb=>hb.kept hk (nT4 hr h2 ht h3 h4 hb)⟩
theorem kD1 (hk:Kept (One r) W W') (hr:∃ c,Blk W r 66 c) (h2:ty≠66):b=b∧(Blk W b ty c→Blk W' b ty c):=⟨rfl,λhb=>hb.kept hk (mT1 hr h2 hb)⟩
theorem kD2 (hk:Kept (Tt t r) W W') (hr:∃ c,Blk W r 66 c) (h2:ty≠66) {tk:TypeId} (ht:Blk W t tk ct) (h3:ty≠tk):b=b∧(Blk W b ty c→Blk W' b ty c):=⟨rfl,λhb=>hb.kept hk (mT2 hr h2 ht h3 hb)⟩
theorem kD3 (hk:Kept (Tq t q r) W W') (hr:∃ c,Blk W r 66 c) (h2:ty≠66) {tk:TypeId} (ht:Blk W t tk ct) (h3:ty≠tk) {tp:TypeId} (hq:Blk W q tp cq) (h4:ty≠tp):b=b∧(Blk W b ty c→Blk W' b ty c):=⟨rfl,λhb=>hb.kept hk (mT3 hr h2 ht h3 hq h4 hb)⟩
theorem kD4 (hk:Kept (Tq t q r) W W') (hr:∃ c,Blk W r 66 c) (h2:ty≠66) {tk:TypeId} (ht:Blk W t tk ct) (h3:ty≠tk) (h4:b≠q):b=b∧(Blk W b ty c→Blk W' b ty c):=⟨rfl,λhb=>hb.kept hk (mT4 hr h2 ht h3 h4 hb)⟩
theorem ge1 {n:Nat} (hr:n≤r):∀ i,One r i→n≤i:=λi (e:i=r)=>by omega
theorem ge2 {n:Nat} (hr:n≤r) (ht:n≤t):∀ i,Tt t r i→n≤i:=λi e=>by rcases e with e|e<;>omega
theorem ge3 {n:Nat} (hr:n≤r) (ht:n≤t) (hq:n≤q):∀ i,Tq t q r i→n≤i:=λi e=>by rcases e with e|e|e<;>omega
def NoU (c:Array Value):Prop:=∀ i n:Nat,c[i]?≠some (.int .u32 n)
theorem jEj {p:Pr} {L:List Pr}:(PC (p :: L))[1]?=some (.int .u32 p.n):=rfl
theorem Row.propK {a:Option Addr} {L:List Pr} (h:Row W a (PC L)) (hk:Kept T W W') (hT:∀ i,T i→∃ ty c,Blk W i ty c∧NoU c):Row W' a (PC L):=by
 cases L with
 | nil=>exact .inl rfl
 | cons p L =>
  refine h.kept hk λb off ha hne hb=>?_
  obtain ⟨ty,c,hB,hn⟩:=hT b hb;rcases h with h|⟨b2,off2,ha2,hlt,hc⟩
  ·cases h
  ·rw[ha]at ha2
   injection ha2 with ha2;injection ha2 with e1 e2 _;subst e1 e2
   have:=hc 1 _ jEj
   rw[hB.cell]at this;exact hn _ _ this
theorem jn (p:Pk) (s:Sl):NoU (Pk.cells p s):=by
 intro i n;unfold Pk.cells;rcases i with _|_|_|_|_|_|_|_|_|_|_|_|_|_|_|_|_|_|_|_|_|_|_|_|_|i<;>simp
theorem nu3 {x y z:Value} (h1:∀ n:Nat,x≠.int .u32 n) (h2:∀ n:Nat,y≠.int .u32 n) (h3:∀ n:Nat,z≠.int .u32 n):NoU #[x,y,z]:=by
 intro i n;rcases i with _|_|_|i
 ·simpa using h1 n
 ·simpa using h2 n
 ·simpa using h3 n
 ·simp
theorem nu2 {x y:Value} (h1:∀ n:Nat,x≠.int .u32 n) (h2:∀ n:Nat,y≠.int .u32 n):NoU #[x,y]:=by
 intro i n;rcases i with _|_|i
 ·simpa using h1 n
 ·simpa using h2 n
 ·simp
theorem uO1 (h:Rdr W r l e):∀ i,One r i→∃ ty c,Blk W i ty c∧NoU c:=by
 intro i hi;obtain rfl:i=r:=hi;obtain ⟨a,c,hb,_⟩:=h;exact ⟨_,_,hb,nu2 (by simp) (by simp)⟩
theorem uO2 (h:Rdr W r l e) (ht:Blk W t ty ct) (hn:NoU ct):∀ i,Tt t r i→∃ ty c,Blk W i ty c∧NoU c:=by
 intro i hi;rcases hi with rfl|hi
 ·exact ⟨_,_,ht,hn⟩
 ·exact uO1 h i hi
theorem uO3 {tp:TypeId} (h:Rdr W r l e) (ht:Blk W t ty ct) (hn:NoU ct) (hq:Blk W q tp cq) (hn2:NoU cq):∀ i,Tq t q r i→∃ ty c,Blk W i ty c∧NoU c:=by
 intro i hi;rcases hi with rfl|rfl|hi
 ·exact ⟨_,_,ht,hn⟩
 ·exact ⟨_,_,hq,hn2⟩
 ·exact uO1 h i hi
theorem vO1 (h:RefR W r B l e):∀ i,One r i→∃ ty c,Blk W i ty c∧NoU c:=by
 intro i hi;obtain rfl:i=r:=hi;obtain ⟨a,hb,_⟩:=h;exact ⟨_,_,hb,nu3 (by simp) (by simp) (by simp)⟩
theorem vO2 (h:RefR W r B l e) (ht:Blk W t ty ct) (hn:NoU ct):∀ i,Tt t r i→∃ ty c,Blk W i ty c∧NoU c:=by
 intro i hi;rcases hi with rfl|hi
 ·exact ⟨_,_,ht,hn⟩
 ·exact vO1 h i hi
theorem jq (hB:Blk W b ty c) (hn:NoU c):∀ i,One b i→∃ ty c,Blk W i ty c∧NoU c:=by
 intro i hi;obtain rfl:i=b:=hi;exact ⟨_,_,hB,hn⟩
end
section
variable {P:Program} {ops:Array Oper} {Q:Exit→Act→World→Prop} {a:Act} {w w0:World} {rest:List Oper} {N n:Nat} {L:List (Nat × Value)} {v:Value} {ty:TypeId} {ps:String} {af:Array Edge} {op:Op} {α:Type}
theorem jI (M':α→List Bk) (R:α→Value→World→Prop) {f:Nat} {args:Array Value} (F:Fr a N L) (hn:Nat.blt n N=true) (h:(execOp a.eval ⟨some n,op,ty,ps,af,none⟩).run P w=.ok (.enter f args) w)
  (hc:Calls P f args w λe w'=>∃ v x,e=.returned v∧R x v w') (hH:∀ x v w',R x v w'→Hp w0 w' (M' x)) (k:∀ (x:α) (v:Value) (w':World) (a':Act),R x v w'→Hp w0 w' (M' x)→Fr a' N ((n,v) :: L)→wpList P ops Q rest a' w'):wpList P ops Q (⟨some n,op,ty,ps,af,none⟩ :: rest) a w:=by
 unfold wpList;rw[if_pos (j59 rfl)];left;unfold Oper.wp;rw[h];refine hc.mono ?_;rintro e w' ⟨v,x,rfl,hR⟩;exact k x v w' _ hR (hH x v w' hR) (F.put hn v)
variable {md:Region.Mode} {S:World→Prop} {fuel:Nat} {listed:Array Bool} {i:Nat}
theorem j9q (M':α→List Bk) (R:α→Value→World→Prop) {f:Nat} {args:Array Value} (F:Fr a N L) (hn:Nat.blt n N=true) (hi:ops[i]?=some ⟨some n,op,ty,ps,af,none⟩)
  (h:(execOp a.eval ⟨some n,op,ty,ps,af,none⟩).run P w=.ok (.enter f args) w) (hc:Calls P f args w λe w'=>∃ v x,e=.returned v∧R x v w') (hH:∀ x v w',R x v w'→Hp w0 w' (M' x)) (hS:∀ x w',Hp w0 w' (M' x)→S w')
  (k:∀ (x:α) (v:Value) (w':World) (a':Act),R x v w'→Hp w0 w' (M' x)→Fr a' N ((n,v) :: L)→wpAnyH P md ops Q S fuel (listed.setIfInBounds i true) a' w') :
  wpOp P ops Q i (λa' w'=>S w'∧wpAnyH P md ops Q S fuel (listed.setIfInBounds i true) a' w') a w:=by
 unfold wpOp;simp only[hi];rw[if_pos (j59 rfl)];left;unfold Oper.wp;rw[h];refine hc.mono ?_;rintro e w' ⟨v,x,rfl,hR⟩;exact ⟨hS x w' (hH x v w' hR),k x v w' _ hR (hH x v w' hR) (F.put hn v)⟩
theorem qV {fn:Func} {t g u:Nat} {T:TypeId} {v y:Value} (h:fn.results=#[.cell t T,.tmp u]) (f:a.tmps[t]?=some (.pointer (some ⟨g,0,none⟩))) (f2:a.tmps[u]?=some y) (hl:(Instr.loadAt T (.pointer (some ⟨g,0,none⟩))).run P w=.ok v w):(results fn a.tmps).run P w=.ok (.tuple #[v,y]) w:=by
 have hl2:(loadVar T ⟨g,0,none⟩).run P w=.ok v w:=hl;unfold results;rw[h];have ha2:asAddr (a.tmps.getD t undef)=(pure ⟨g,0,none⟩:Sem Addr):=by rw[Array.getD_eq_getD_getElem?,f];rfl
 simp only[List.mapM_toArray,List.mapM_cons,List.mapM_nil,Array.mapM_eq_mapM_toList];rw[ha2];simp[hl2,Result.andThen,Array.getD_eq_getD_getElem?,f2]
end
def RdP (W:World) (r:Nat) (x:Value) (S' S1:Ts) (u:Value) (W':World):Prop:=u=x∧S1=S'∧Rk W (One r) r S1 W'
def RdD (B:ByteArray) (W:World) (r:Nat) (x:Value) (S' S1:Ts) (u:Value) (W':World):Prop:=u=x∧S1=S'∧Rd B W (One r) r S1 W'
section
variable {w W:World} {T:Nat→Prop} {r:Nat} {S:Ts} {B:ByteArray}
theorem jH4 (h:Rk w T r S W):Calls Tryz.prog 51 #[.pointer (some ⟨r,0,none⟩)] W λe w'=>∃ u S1,e=.returned u∧RdP W r (.int .u16 (S.num 2:Int)) (S.rd 2) S1 u w' :=
 (j64 W r S.l S.e h.r).mono λe w' q=>⟨_,_,q.1,rfl,rfl,Nat.le_trans (j7f _ _) h.n,q.2.rdr,q.2.kept⟩
theorem j5f (h:Rk w T r S W):Calls Tryz.prog 44 #[.pointer (some ⟨r,0,none⟩)] W λe w'=>∃ u S1,e=.returned u∧RdP W r (.int .u8 (S.num 1:Int)) (S.rd 1) S1 u w' :=
 (j1k W r S.l S.e h.r).mono λe w' q=>⟨_,_,q.1,rfl,rfl,Nat.le_trans (j7f _ _) h.n,q.2.rdr,q.2.kept⟩
theorem jJx (h:Rk w T r S W):Calls Tryz.prog 91 #[.pointer (some ⟨r,0,none⟩)] W λe w'=>∃ u S1,e=.returned u∧RdP W r (.string S.bin) S.rdB S1 u w' :=
 (j18 W r S.l S.e h.r).mono λe w' q=>⟨_,_,q.1,rfl,rfl,Nat.le_trans (j8o _) h.n,q.2.rdr,q.2.kept⟩
theorem jLd (h:Rk w T r S W):Calls Tryz.prog 55 #[.pointer (some ⟨r,0,none⟩)] W λe w'=>∃ u S1,e=.returned u∧RdP W r (.string S.rest) S.rdR S1 u w' :=
 (j7h W r S.l S.e h.r).mono λe w' q=>⟨_,_,q.1,rfl,rfl,Nat.zero_le _,q.2.rdr,q.2.kept⟩
theorem j9y (h:Rk w T r S W):Calls Tryz.prog 19 #[.pointer (some ⟨r,0,none⟩)] W λe w'=>e=.returned (.int .i64 (S.l.length:Int))∧Kept No W w' :=
 (j10 W r S.l S.e h.r).mono λe w' q=>⟨q.1,q.2▸Kept.refl No _⟩
theorem jMq (h:Rk w T r S W):Calls Tryz.prog 46 #[.pointer (some ⟨r,0,none⟩)] W λe w'=>e=.returned (.int .i64 S.e)∧Kept No W w' :=
 (xp W r S.l S.e h.r).mono λe w' q=>⟨q.1,q.2▸Kept.refl No _⟩
theorem j40 (n:Int) (h0:0≤n) (h4:n≤4) (h:Rd B w T r S W):Calls Tryz.prog 23 #[.pointer (some ⟨r,0,none⟩),.int .i64 n] W λe w'=>∃ u S1,e=.returned u∧RdD B W r (.int .u64 (S.num n:Int)) (S.rd n) S1 u w' :=
 (j01 W r B S.l S.e n h.r h0 h4).mono λe w' q=>⟨_,_,q.1,rfl,rfl,Nat.le_trans (j7f _ _) h.n,q.2.rdr,q.2.kept⟩
theorem jIt (h:Rd B w T r S W):Calls Tryz.prog 58 #[.pointer (some ⟨r,0,none⟩)] W λe w'=>∃ u S1,e=.returned u∧RdD B W r (.string S.bin) S.rdB S1 u w' :=
 (zR W r B S.l S.e h.r).mono λe w' q=>⟨_,_,q.1,rfl,rfl,Nat.le_trans (j8o _) h.n,q.2.rdr,q.2.kept⟩
theorem jKs (h:Rd B w T r S W):Calls Tryz.prog 26 #[.pointer (some ⟨r,0,none⟩)] W λe w'=>∃ u S1,e=.returned u∧RdD B W r (.string S.rest) S.rdR S1 u w' :=
 (j3u W r B S.l S.e h.r).mono λe w' q=>⟨_,_,q.1,rfl,rfl,Nat.zero_le _,q.2.rdr,q.2.kept⟩
theorem jKr (h:Rd B w T r S W):Calls Tryz.prog 28 #[.pointer (some ⟨r,0,none⟩)] W λe w'=>∃ u S1,e=.returned u∧RdD B W r (.int .i64 (S.l.length:Int)) S S1 u w' :=
 (j7g W r B S.l S.e h.r).mono λe w' q=>⟨_,_,q.1,rfl,rfl,h.n,q.2.rdr,q.2.kept⟩
def TkP (W:World) (r:Nat) (L:List Pr) (x:Bool) (S' S1:Ts) (u:Value) (W':World):Prop:=∃ a c,u=.tuple #[.slice a L.length c,.bool x]∧Row W' a (PC L)∧(a=none→L.length=0∧c=0)∧S1=S'∧Rk W (One r) r S1 W'
def TkD (B:ByteArray) (W:World) (r:Nat) (L:List Pr) (x:Bool) (S' S1:Ts) (u:Value) (W':World):Prop:=∃ a c,u=.tuple #[.slice a L.length c,.bool x]∧Row W' a (PC L)∧(a=none→L.length=0∧c=0)∧S1=S'∧Rd B W (One r) r S1 W'
theorem jPf (h:Rk w T r S W) (hT:Tabs W):Calls Tryz.prog 94 #[.pointer (some ⟨r,0,none⟩)] W λe w'=>∃ u S1,e=.returned u∧TkP W r (qd S.l S.e).1 (qd S.l S.e).2 ⟨qz S.l S.e,qu S.l S.e,S.b⟩ S1 u w':=by
 have hn:=h.n;refine (jEl W r S.l S.e h.r hn hT (λ_ _=>jHy _ ?_)).mono λe w' ⟨a,c,h1,h2,h3,h4⟩=>⟨_,_,h1,a,c,rfl,h2,h3,rfl,Nat.le_trans (j1d _ _) hn,h4.rdr,h4.kept⟩
 have h1:(qC (jx S.l S.e)).1.length≤(jx S.l S.e).length:=j0t _ _;have h2:=j1e S.l S.e;omega
theorem jNo (h:Rd B w T r S W):Calls Tryz.prog 60 #[.pointer (some ⟨r,0,none⟩)] W λe w'=>∃ u S1,e=.returned u∧TkD B W r (qd S.l S.e).1 (qd S.l S.e).2 ⟨qz S.l S.e,qu S.l S.e,S.b⟩ S1 u w' :=
 (jC1 W r B S.l S.e h.r h.n).mono λe w' ⟨a,c,h1,h2,h3,h4⟩=>⟨_,_,h1,a,c,rfl,h2,h3,rfl,Nat.le_trans (j1d _ _) h.n,h4.rdr,h4.kept⟩
end
theorem xf {W:World} {a:Option Addr} {L:List Pr} (h:L=[]):Row W a (PC L):=by subst h;exact .nil _ _
theorem zf {W:World} {a:Option Addr} {L:List Fi} (h:L=[]):Row W a (FC L):=by subst h;exact .nil _ _
theorem ze {W:World} {a:Option Addr} {L:List UInt8} (h:L=[]):Row W a (B8 L):=by subst h;exact .nil _ _
structure Emp (W:World) (x:Pk) (s:Sl):Prop where
 w:x.willProps=[]
 p:Row W s.pa (PC x.props)
 nf:x.filters=[]
 nc:x.codes=[]
 sc:s.ca=none∧s.cc=0
structure TcP (w:World) (v:Int) (t r:Nat) (x:Value) (S' S1:Ts) (u:Value) (W:World):Prop where
 u:u=x
 s:S1=S'
 z:Rk w (Tt t r) r S1 W
 tb:Blk W t 56 #[.int .i64 v,.pointer (some ⟨r,0,none⟩),.bool S1.b]
structure ScP (w:World) (v:Int) (t r:Nat) (L:List Pr) (S' S1:Ts) (a:Option Addr) (c:Nat) (u:Value) (W:World):Prop where
 u:u=.slice a L.length c
 s:S1=S'
 z:Rk w (Tt t r) r S1 W
 tb:Blk W t 56 #[.int .i64 v,.pointer (some ⟨r,0,none⟩),.bool S1.b]
 row:Row W a (PC L)
structure KcP (w:World) (v:Int) (t q r:Nat) (K:Pk × Ts) (S1:Ts) (P1:Pk) (s1:Sl) (u:Value) (W:World):Prop where
 u:u=.tuple #[]
 s:S1=K.2
 p:P1=K.1
 z:Rk w (Tq t q r) r S1 W
 tb:Blk W t 56 #[.int .i64 v,.pointer (some ⟨r,0,none⟩),.bool S1.b]
 qb:Blk W q 27 (Pk.cells P1 s1)
 wr:Row W s1.wa (PC P1.willProps)
 pr:Row W s1.pa (PC P1.props)
 nf:P1.filters=[]
 nc:P1.codes=[]
 sc:s1.ca=none∧s1.cc=0
structure TcD (B:ByteArray) (w:World) (v:Int) (t r:Nat) (x:Value) (S' S1:Ts) (u:Value) (W:World):Prop where
 u:u=x
 s:S1=S'
 z:Rd B w (Tt t r) r S1 W
 tb:Blk W t 68 #[.pointer (some ⟨r,0,none⟩),.int .i64 v,.bool S1.b]
structure ScD (B:ByteArray) (w:World) (v:Int) (t r:Nat) (L:List Pr) (S' S1:Ts) (a:Option Addr) (c:Nat) (u:Value) (W:World):Prop where
 u:u=.slice a L.length c
 s:S1=S'
 z:Rd B w (Tt t r) r S1 W
 tb:Blk W t 68 #[.pointer (some ⟨r,0,none⟩),.int .i64 v,.bool S1.b]
 row:Row W a (PC L)
structure KcD (B:ByteArray) (w:World) (v:Int) (t q r:Nat) (K:Pk × Ts) (S1:Ts) (P1:Pk) (s1:Sl) (u:Value) (W:World):Prop where
 u:u=.tuple #[]
 s:S1=K.2
 p:P1=K.1
 z:Rd B w (Tq t q r) r S1 W
 tb:Blk W t 68 #[.pointer (some ⟨r,0,none⟩),.int .i64 v,.bool S1.b]
 qb:Blk W q 34 (Pk.cells P1 s1)
 wr:Row W s1.wa (PC P1.willProps)
 pr:Row W s1.pa (PC P1.props)
 nf:P1.filters=[]
 nc:P1.codes=[]
 sc:s1.ca=none∧s1.cc=0
end Go.Proofs.YtnehnjklgglliaaGreatDoor
namespace Go.Proofs.YtnehnjklgglliaaGreatDoor
open Go.RowKit
set_option linter.unusedVariables false
set_option linter.unusedSimpArgs false
set_option maxRecDepth 100000
theorem jCm (w:World):(isAgg 53).run Tryz.prog w=.ok false w:=by kernel_rfl
instance:NA 53:=⟨jCm⟩
theorem jD6 (w:World):(isAgg 49).run Tryz.prog w=.ok true w:=by kernel_rfl
theorem j57 (w:World):(Go.sizeOf 49).run Tryz.prog w=.ok 4 w:=by kernel_rfl
theorem jP9 (w:World):(Go.sizeOf 56).run Tryz.prog w=.ok 3 w:=by kernel_rfl
theorem jJc:FAt Tryz.prog 49 0 0:=by
 intro B o w
 have u:=Tryz.underlying49
 go_simp
instance:FA 49 0 0:=⟨jJc⟩
theorem jJd:FAt Tryz.prog 49 1 1:=by
 intro B o w
 have u:=Tryz.underlying49
 go_simp
instance:FA 49 1 1:=⟨jJd⟩
theorem jJe:FAt Tryz.prog 49 2 2:=by
 intro B o w
 have u:=Tryz.underlying49
 go_simp
instance:FA 49 2 2:=⟨jJe⟩
theorem jJf:FAt Tryz.prog 49 3 3:=by
 intro B o w
 have u:=Tryz.underlying49
 go_simp
instance:FA 49 3 3:=⟨jJf⟩
theorem jJg:FAt Tryz.prog 56 0 0:=by
 intro B o w
 have u:=Tryz.underlying56
 go_simp
instance:FA 56 0 0:=⟨jJg⟩
theorem j4a:FAt Tryz.prog 56 1 1:=by
 intro B o w
 have u:=Tryz.underlying56
 go_simp
instance:FA 56 1 1:=⟨j4a⟩
theorem jJh:FAt Tryz.prog 56 2 2:=by
 intro B o w
 have u:=Tryz.underlying56
 go_simp
instance:FA 56 2 2:=⟨jJh⟩
theorem jKm (w:World):(Instr.alloc 49 true (.tuple #[])).run Tryz.prog w=.ok (.pointer (some ⟨w.heap.size,0,none⟩)) (w.alloc (.cells #[(.int .i64 0),(.int .u8 0),(.int .i64 0),(.int .i64 0)] 49)):=by kernel_rfl
theorem jNk (w:World):(Instr.alloc 56 true (.tuple #[])).run Tryz.prog w=.ok (.pointer (some ⟨w.heap.size,0,none⟩)) (w.alloc (.cells #[(.int .i64 0),(.pointer none),(.bool false)] 56)):=by kernel_rfl
theorem jOb:FN Tryz.prog 49:=jc Tryz.func49 (by kernel_rfl) rfl
theorem jOa:FN Tryz.prog 48:=jc Tryz.func48 (by kernel_rfl) rfl
theorem jNv:FN Tryz.prog 17:=jc Tryz.func17 (by kernel_rfl) rfl
theorem jOd:FN Tryz.prog 54:=jc Tryz.func54 (by kernel_rfl) rfl
theorem j56:FN Tryz.prog 90:=jc Tryz.func90 (by kernel_rfl) rfl
theorem jKx:FN Tryz.prog 18:=jc Tryz.func18 (by kernel_rfl) rfl
theorem jOc:FN Tryz.prog 50:=jc Tryz.func50 (by kernel_rfl) rfl
theorem j54:FN Tryz.prog 53:=jc Tryz.func53 (by kernel_rfl) rfl
theorem jL3:FN Tryz.prog 52:=jc Tryz.func52 (by kernel_rfl) rfl
theorem j9m:FN Tryz.prog 92:=jc Tryz.func92 (by kernel_rfl) rfl
theorem jOt:FN Tryz.prog 93:=jc Tryz.func93 (by kernel_rfl) rfl
theorem jD3:FN Tryz.prog 91:=jc Tryz.func91 (by kernel_rfl) rfl
theorem j53:FN Tryz.prog 44:=jc Tryz.func44 (by kernel_rfl) rfl
theorem jGr:FN Tryz.prog 46:=jc Tryz.func46 (by kernel_rfl) rfl
theorem j9j:FN Tryz.prog 19:=jc Tryz.func19 (by kernel_rfl) rfl
theorem jL4:FN Tryz.prog 55:=jc Tryz.func55 (by kernel_rfl) rfl
theorem j9l:FN Tryz.prog 51:=jc Tryz.func51 (by kernel_rfl) rfl
theorem jO9:FN Tryz.prog 45:=jc Tryz.func45 (by kernel_rfl) rfl
theorem jOf:FN Tryz.prog 6:=jc Tryz.func6 (by kernel_rfl) rfl
theorem jNt:FN Tryz.prog 14:=jc Tryz.func14 (by kernel_rfl) rfl
theorem jKv:FN Tryz.prog 11:=jc Tryz.func11 (by kernel_rfl) rfl
theorem jNu:FN Tryz.prog 15:=jc Tryz.func15 (by kernel_rfl) rfl
theorem jOu:FN Tryz.prog 94:=jc Tryz.func94 (by kernel_rfl) rfl
theorem jKw:FN Tryz.prog 16:=jc Tryz.func16 (by kernel_rfl) rfl
open Go.RowKit
set_option linter.unusedVariables false
set_option linter.unusedSimpArgs false
set_option maxRecDepth 100000
theorem jHh (w0 w:World) (t r:Nat) (v:Int) (S:Ts) (H:Hp w0 w [⟨t,56,#[(.int .i64 v),(.pointer (some ⟨r,0,none⟩)),(.bool S.b)]⟩]) (hr0:w0.heap.size≤r) (hR:Rdr w r S.l S.e) (hn:S.l.length≤100000) :
  Calls Tryz.prog 18 #[.pointer (some ⟨t,0,none⟩)] w λe w'=>e=.returned (.bool S.ok)∧Kept No w w':=by
 have HB:=H;clear H;let RR:Ending→World→Prop:=λe w'=>e=.returned (.bool S.ok)∧Kept No w w'
 go_enter Tryz.func18,Tryz.ntmps18
 generalize hA:({tmps:=_,defers:=[]}:Act)=A;have F:Fr A 16 [(0,(.pointer (some ⟨t,0,none⟩)))]:=by rw[← hA];exact (Fr.cons (i:=0) (v:=(.pointer (some ⟨t,0,none⟩))) (Fr.nil0 rfl rfl) rfl)
 clear hA;have H:=HB;clear HB;have hZ:Rk w (Tt t r) r S w:=Rk.start hR hn;clear hR hn;have hKN:Kept No w w:=Kept.refl No w;refine sg λK1 hK1=>?_;refine zd ?_;intro A F;refine nn (hK1 _ _) ?_;refine sg λK2 hK2=>?_;refine zd ?_;intro A F;refine j3 F rfl (jK rfl (F.e rfl)) ?_;intro A F
 iterate 4 (refine zd ?_;intro A F)
 refine zg ?_;intro A F;refine q6 F rfl (je F rfl rfl rfl) (λhG=>(jK rfl (F.o rfl hG))) ?_;intro A F;refine zB F rfl rfl (je F rfl rfl rfl) rfl rfl (λhG=>(F.o rfl hG)) (j4a _ _ _) (jCm _) (H.c 0 rfl rfl) ?_;intro A F;refine jl F H rfl (je F rfl rfl rfl) (λhG=>(j5 rfl rfl (j4 (F.o rfl hG) j8) jGr)) (λhG=>jMq hZ) ?_;clear F H A;intro W A hk H F;replace hZ:=hZ.no hk;replace hKN:=hKN.trans hk;clear hk;refine zgb (jG) ?_;intro A F;refine j3 F rfl (jJ rfl (F.e rfl) (λhx=>(F.o rfl hx)) rfl) ?_;intro A F;refine zd ?_;intro A F;refine nn (hK2 _ _) ?_;refine j9 ?_;refine (show bodyPost _ Tryz.f18 RR Exit.ret _ _ from zr ?_);exact ⟨congrArg (λb=>Ending.returned (.bool b)) (by unfold Ts.ok;rfl),hKN⟩
theorem zQ (w0 w:World) (t r:Nat) (v:Int) (S:Ts) (H:Hp w0 w [⟨t,56,#[(.int .i64 v),(.pointer (some ⟨r,0,none⟩)),(.bool S.b)]⟩]) (hr0:w0.heap.size≤r) (hR:Rdr w r S.l S.e) (hn:S.l.length≤100000) (so:Bool) :
  Calls Tryz.prog 90 #[.pointer (some ⟨t,0,none⟩),.bool so] w λe w'=>∃ u,∃ x:Ts,e=.returned u∧(TcP w v t r (.tuple #[]) (S.need so)) x u w':=by
 have HB:=H;clear H;let RR:Ending→World→Prop:=λe w'=>∃ u,∃ x:Ts,e=.returned u∧(TcP w v t r (.tuple #[]) (S.need so)) x u w'
 go_enter Tryz.func90,Tryz.ntmps90
 generalize hA:({tmps:=_,defers:=[]}:Act)=A;have F:Fr A 15 [(1,(.bool so)),(0,(.pointer (some ⟨t,0,none⟩)))]:=by rw[← hA];exact (Fr.cons (i:=1) (v:=(.bool so)) (Fr.cons (i:=0) (v:=(.pointer (some ⟨t,0,none⟩))) (Fr.nil0 rfl rfl) rfl) rfl)
 clear hA;have H:=HB;clear HB;have hZ:Rk w (Tt t r) r S w:=Rk.start hR hn;clear hR hn;refine jC ?_
 iterate 2 (refine zd ?_;intro A F)
 refine j3 F rfl (jK rfl (F.e rfl)) ?_;intro A F
 iterate 3 (refine zd ?_;intro A F)
 iterate 2 (refine zg ?_;intro A F)
 refine j3 F rfl (jN rfl (F.e rfl) (λhx=>(F.o rfl (gnt hx))) rfl) ?_;intro A F;refine j3 F rfl (jK rfl (F.e rfl)) ?_;intro A F;refine zd ?_;intro A F;refine zs [] (#[(.int .i64 v),(.pointer (some ⟨r,0,none⟩)),(.bool (S.b||(!so)))]) ?_;intro W H9 hk;replace hZ:=hZ.st (H.b.at_ (j:=0) rfl).1 (ne9 rfl) (ne9 rfl) (.inr (.inl rfl)) hk;clear H hk;have H:=H9;clear H9;refine wpList_nil ?_;refine (show bodyPost _ Tryz.f90 RR Exit.normal _ _ from zn0 ?_);exact ⟨_,_,rfl,⟨rfl,rfl,⟨hZ.n,hZ.r,hZ.k⟩,(H.b.at_ (j:=0) rfl).1⟩⟩
theorem ql (S:Ts):S.num 1<256:=by
 have h1:=xL 1 S.l S.e;have h2:=j23 (jL 1 S.l S.e);have h4:256 ^ (jL 1 S.l S.e).length≤256 ^ 1:=Nat.pow_le_pow_right (by decide) (by omega);unfold Ts.num;omega
theorem jFh {S:Ts} (h:S.l.length≤100000):S.bin.size≤9223372036854775807:=by
 have h1:=xL (num (jL 2 S.l S.e)) (jX 2 S.l S.e) (jT 2 S.l S.e);have h2:=j23 (jL 2 S.l S.e);have h3:=xL 2 S.l S.e;have h4:256 ^ (jL 2 S.l S.e).length≤256 ^ 2:=Nat.pow_le_pow_right (by decide) (by omega);have h5:S.bin.size=(jh S.l S.e).length:=by unfold Ts.bin;rw[vo]
 rw[h5];unfold jh;omega
theorem j1f (w0 w:World) (t r:Nat) (v:Int) (S:Ts) (H:Hp w0 w [⟨t,56,#[(.int .i64 v),(.pointer (some ⟨r,0,none⟩)),(.bool S.b)]⟩]) (hr0:w0.heap.size≤r) (hR:Rdr w r S.l S.e) (hn:S.l.length≤100000) (hT:Tabs w0) :
  Calls Tryz.prog 92 #[.pointer (some ⟨t,0,none⟩)] w λe w'=>∃ u,∃ x:Ts,e=.returned u∧(TcP w v t r (.string S.bin) S.rdT) x u w':=by
 have HB:=H;clear H;let RR:Ending→World→Prop:=λe w'=>∃ u,∃ x:Ts,e=.returned u∧(TcP w v t r (.string S.bin) S.rdT) x u w'
 go_enter Tryz.func92,Tryz.ntmps92
 generalize hA:({tmps:=_,defers:=[]}:Act)=A;have F:Fr A 14 [(0,(.pointer (some ⟨t,0,none⟩)))]:=by rw[← hA];exact (Fr.cons (i:=0) (v:=(.pointer (some ⟨t,0,none⟩))) (Fr.nil0 rfl rfl) rfl)
 clear hA;have H:=HB;clear HB;have hZ:Rk w (Tt t r) r S w:=Rk.start hR hn;clear hR hn;refine sg λK1 hK1=>?_;refine zd ?_;intro A F;refine nn (hK1 _ _) ?_;refine sg λK2 hK2=>?_;refine zd ?_;intro A F;refine j3 F rfl (jK rfl (F.e rfl)) ?_;intro A F
 iterate 2 (refine zd ?_;intro A F)
 have hn9:=hZ.n;refine jI (λ(x:Ts)=>[⟨t,56,#[(.int .i64 v),(.pointer (some ⟨r,0,none⟩)),(.bool x.b)]⟩]) (RdP _ r (.string S.bin) S.rdB) F rfl (j5 rfl rfl (j4 (F.e rfl) j8) jD3) (jJx hZ) (λS3 _ _ h=>Hp.re H (h.2.2.k) (ge1 hr0) ⟨⟨rfl,λhb=>by rw[show S3=_ from h.2.1];exact (kP1 (h.2.2.k) hZ.r.blk (ne9 rfl)).2 hb⟩,trivial⟩) ?_;clear F H A;intro S3 vv W A hR H F;obtain ⟨rfl,hS3,hZ9⟩:=hR
 try dsimp only at H
 replace hZ:=hZ.step hZ9 tt1;clear hZ9;refine zd ?_;intro A F;refine nn (hK2 _ _) ?_;refine sg λK4 hK4=>?_
 iterate 2 (refine zd ?_;intro A F)
 refine jU F H rfl (j5 rfl rfl (j4 (F.e rfl) j8) jBb) (xS S.bin _ (jFh hn9) (hT.kept H.k)) ?_;clear F H A;intro W A hk H F;replace hZ:=hZ.no hk;clear hk;obtain ⟨htb,ht0⟩:=H.b.at_ (j:=0) rfl;refine jI (λ(x:Ts)=>[⟨t,56,#[(.int .i64 v),(.pointer (some ⟨r,0,none⟩)),(.bool x.b)]⟩]) (TcP _ v t r (.tuple #[]) (S3.need (jm S.bin))) F rfl (j5 rfl rfl (j4 (F.e rfl) (j4 (F.e rfl) j8)) j56) (zQ w0 _ t r v S3 ⟨H.k,htb,ht0,by simp,trivial⟩ hr0 hZ.r hZ.n (jm S.bin)) (λS6 _ _ h=>Hp.re H (h.z.k) (ge2 hr0 ht0) ⟨⟨rfl,λ_=>h.tb⟩,trivial⟩) ?_;clear F H A;intro S6 vv W A hR H F;obtain ⟨rfl,hS6,hZ9,-⟩:=hR
 try dsimp only at H
 replace hZ:=hZ.step hZ9 tt2;clear hZ9;clear htb ht0;refine nn (hK4 _ _) ?_;refine sg λK7 hK7=>?_
 iterate 2 (refine zd ?_;intro A F)
 refine nn (hK7 _ _) ?_;refine j9 ?_;refine (show bodyPost _ Tryz.f92 RR Exit.ret _ _ from zr ?_);exact (by subst hS6 hS3;exact ⟨_,_,rfl,⟨rfl,rfl,hZ,(H.b.at_ (j:=0) rfl).1⟩⟩)
theorem zS (w0 w:World) (t r:Nat) (v:Int) (S:Ts) (H:Hp w0 w [⟨t,56,#[(.int .i64 v),(.pointer (some ⟨r,0,none⟩)),(.bool S.b)]⟩]) (hr0:w0.heap.size≤r) (hR:Rdr w r S.l S.e) (hn:S.l.length≤100000) (hT:Tabs w0) :
  Calls Tryz.prog 53 #[.pointer (some ⟨t,0,none⟩)] w λe w'=>∃ u,∃ x:Ts × Option Addr × Nat,e=.returned u∧(λx=>ScP w v t r (S.sec v) (S.rdS v) x.1 x.2.1 x.2.2) x u w':=by
 have HB:=H;clear H;let RR:Ending→World→Prop:=λe w'=>∃ u,∃ x:Ts × Option Addr × Nat,e=.returned u∧(λx=>ScP w v t r (S.sec v) (S.rdS v) x.1 x.2.1 x.2.2) x u w'
 go_enter Tryz.func53,Tryz.ntmps53
 generalize hA:({tmps:=_,defers:=[]}:Act)=A;have F:Fr A 22 [(0,(.pointer (some ⟨t,0,none⟩)))]:=by rw[← hA];exact (Fr.cons (i:=0) (v:=(.pointer (some ⟨t,0,none⟩))) (Fr.nil0 rfl rfl) rfl)
 clear hA;have H:=HB;clear HB;have hZ:Rk w (Tt t r) r S w:=Rk.start hR hn;clear hR hn;refine sg λK1 hK1=>?_;refine zd ?_;intro A F;refine nn (hK1 _ _) ?_;refine wp_seq_k λK2 hK2=>?_;refine sg λK3 hK3=>?_;refine zd ?_;intro A F;refine j3 F rfl (jK rfl (F.e rfl)) ?_;intro A F
 iterate 2 (refine zd ?_;intro A F)
 refine zb (jG) ?_;intro A F;refine nn (hK3 _ _) ?_;refine zc (λhb4=>?_) (λhb4=>?_)
 ·skip
  refine sg λK5 hK5=>?_;refine zd ?_;intro A F;refine nn (hK5 _ _) ?_;refine j9 ?_;refine (show bodyPost _ Tryz.f53 RR Exit.ret _ _ from zr ?_);exact ⟨_,(S,none,0),rfl,⟨by rw[show S.sec v=[] from if_pos (of_decide_eq_true hb4)];rfl,(if_pos (of_decide_eq_true hb4)).symm,hZ,(H.b.at_ (j:=0) rfl).1,by rw[show S.sec v=[] from if_pos (of_decide_eq_true hb4)];exact .nil _ _⟩⟩
 refine wp_skip (hK2 _ _ ?_);refine sg λK6 hK6=>?_;refine zd ?_;intro A F;refine j3 F rfl (jK rfl (F.e rfl)) ?_;intro A F
 iterate 2 (refine zd ?_;intro A F)
 refine jI (λ(x:Ts)=>[⟨t,56,#[(.int .i64 v),(.pointer (some ⟨r,0,none⟩)),(.bool x.b)]⟩]) (TkP _ r (qd S.l S.e).1 (qd S.l S.e).2 (⟨qz S.l S.e,qu S.l S.e,S.b⟩:Ts)) F rfl (j5 rfl rfl (j4 (F.e rfl) j8) jOu) (jPf hZ (hT.kept H.k)) (λS7 _ _ h=>Hp.re H (h.choose_spec.choose_spec.2.2.2.2.k) (ge1 hr0) ⟨⟨rfl,λhb=>by rw[show S7=_ from h.choose_spec.choose_spec.2.2.2.1];exact (kP1 (h.choose_spec.choose_spec.2.2.2.2.k) hZ.r.blk (ne9 rfl)).2 hb⟩,trivial⟩) ?_;clear F H A;intro S7 vv W A hR H F;obtain ⟨a7,c7,rfl,hP7,hN7,hS7,hZ9⟩:=hR
 try dsimp only at H
 replace hZ:=hZ.step hZ9 tt1;clear hZ9
 iterate 5 (refine zd ?_;intro A F)
 refine nn (hK6 _ _) ?_;refine sg λK8 hK8=>?_
 iterate 2 (refine zd ?_;intro A F)
 obtain ⟨htb,ht0⟩:=H.b.at_ (j:=0) rfl;refine jI (λ(x:Ts)=>[⟨t,56,#[(.int .i64 v),(.pointer (some ⟨r,0,none⟩)),(.bool x.b)]⟩]) (TcP _ v t r (.tuple #[]) (S7.need ((qd S.l S.e).2))) F rfl (j5 rfl rfl (j4 (F.e rfl) (j4 (F.e rfl) j8)) j56) (zQ w0 _ t r v S7 ⟨H.k,htb,ht0,by simp,trivial⟩ hr0 hZ.r hZ.n ((qd S.l S.e).2)) (λS9 _ _ h=>Hp.re H (h.z.k) (ge2 hr0 ht0) ⟨⟨rfl,λ_=>h.tb⟩,trivial⟩) ?_;clear F H A;intro S9 vv W A hR H F;obtain ⟨rfl,hS9,hZ9,-⟩:=hR
 try dsimp only at H
 replace hP7:=hP7.propK hZ9.k (uO2 hZ.r htb (nu3 (by simp) (by simp) (by simp)));replace hZ:=hZ.step hZ9 tt2;clear hZ9;clear htb ht0;refine nn (hK8 _ _) ?_;refine sg λK10 hK10=>?_
 iterate 2 (refine zd ?_;intro A F)
 refine nn (hK10 _ _) ?_;refine j9 ?_;refine (show bodyPost _ Tryz.f53 RR Exit.ret _ _ from zr ?_);exact (by have hE1:S.sec v=(qd S.l S.e).1:=if_neg (of_decide_eq_false hb4);have hE2:=show S.rdS v=_ from if_neg (of_decide_eq_false hb4);subst hS9 hS7;refine ⟨_,(_,a7,c7),rfl,⟨by rw[hE1];rfl,hE2.symm,hZ,(H.b.at_ (j:=0) rfl).1,by rw[hE1];exact hP7⟩⟩)
open Go.RowKit
set_option linter.unusedVariables false
set_option linter.unusedSimpArgs false
set_option maxRecDepth 100000
theorem j6a (w0 w:World) (t q r:Nat) (v:Int) (S:Ts) (P:Pk) (s:Sl) (H:Hp w0 w [⟨q,27,(Pk.cells P s)⟩,⟨t,56,#[(.int .i64 v),(.pointer (some ⟨r,0,none⟩)),(.bool S.b)]⟩]) (hr0:w0.heap.size≤r) (hR:Rdr w r S.l S.e) (hn:S.l.length≤100000) (hE:Emp w P s) (hT:Tabs w0) :
  Calls Tryz.prog 52 #[.pointer (some ⟨t,0,none⟩),.pointer (some ⟨q,0,none⟩)] w λe w'=>∃ u,∃ x:Ts × Pk × Sl,e=.returned u∧(λx=>KcP w v t q r (qg v P S) x.1 x.2.1 x.2.2) x u w':=by
 have HB:=H;clear H;let RR:Ending→World→Prop:=λe w'=>∃ u,∃ x:Ts × Pk × Sl,e=.returned u∧(λx=>KcP w v t q r (qg v P S) x.1 x.2.1 x.2.2) x u w'
 go_enter Tryz.func52,Tryz.ntmps52
 generalize hA:({tmps:=_,defers:=[]}:Act)=A;have F:Fr A 36 [(1,(.pointer (some ⟨q,0,none⟩))),(0,(.pointer (some ⟨t,0,none⟩)))]:=by rw[← hA];exact (Fr.cons (i:=1) (v:=(.pointer (some ⟨q,0,none⟩))) (Fr.cons (i:=0) (v:=(.pointer (some ⟨t,0,none⟩))) (Fr.nil0 rfl rfl) rfl) rfl)
 clear hA;have H:=HB;clear HB;have hZ:Rk w (Tq t q r) r S w:=Rk.start hR hn;clear hR hn;have htq:t<q:=H.b.2.2.1 _ (List.mem_cons_self ..);have hPp:=hE.p;refine wp_seq_k λK1 hK1=>?_;refine sg λK2 hK2=>?_;refine zd ?_;intro A F;refine j3 F rfl (jK rfl (F.e rfl)) ?_;intro A F
 iterate 2 (refine zd ?_;intro A F)
 refine zb (jG) ?_;intro A F;refine zd ?_;intro A F;refine zg ?_;intro A F;refine q6 F rfl (jv F rfl rfl rfl) (λhG=>(jK rfl (F.o rfl hG))) ?_;intro A F;refine zB F rfl rfl (jv F rfl rfl rfl) rfl rfl (λhG=>(F.o rfl hG)) (j4a _ _ _) (jCm _) (H.c 1 rfl rfl) ?_;intro A F;refine jl F H rfl (jv F rfl rfl rfl) (λhG=>(j5 rfl rfl (j4 (F.o rfl hG) j8) j9j)) (λhG=>j9y hZ) ?_;clear F H A;intro W A hk H F;replace hZ:=hZ.no hk;replace hPp:=hPp.keptNo hk;clear hk;refine zgb (jt (i:=S.l.length) (j:=0)) ?_;intro A F;refine j3 F rfl (jN rfl (F.e rfl) (λhx=>(F.o rfl (gnt hx))) rfl) ?_;intro A F;refine nn (hK2 _ _) ?_;refine zc (λhb4=>?_) (λhb4=>?_)
 ·skip
  refine j9 ?_;refine (show bodyPost _ Tryz.f52 RR Exit.ret _ _ from zr0 ?_);exact (by have hK9:=(show qg v P S=_ from if_pos (by have h9:=hb4;simpa using h9));exact ⟨_,(_,_,s),rfl,⟨rfl,(congrArg Prod.snd hK9).symm,(congrArg Prod.fst hK9).symm,hZ,(H.b.at_ (j:=1) rfl).1,(H.b.at_ (j:=0) rfl).1,xf hE.w,hPp,hE.nf,hE.nc,hE.sc⟩⟩)
 refine wp_skip (hK1 _ _ ?_);refine sg λK5 hK5=>?_
 iterate 2 (refine zd ?_;intro A F)
 refine j3 F rfl (jK rfl (F.e rfl)) ?_;intro A F
 iterate 2 (refine zd ?_;intro A F)
 refine jI (λ(x:Ts)=>[⟨q,27,(Pk.cells P s)⟩,⟨t,56,#[(.int .i64 v),(.pointer (some ⟨r,0,none⟩)),(.bool x.b)]⟩]) (RdP _ r (.int .u8 ((S.num 1:Int))) (S.rd 1)) F rfl (j5 rfl rfl (j4 (F.e rfl) j8) j53) (j5f hZ) (λS6 _ _ h=>Hp.re H (h.2.2.k) (ge1 hr0) ⟨kP1 (h.2.2.k) hZ.r.blk (ne9 rfl),⟨⟨rfl,λhb=>by rw[show S6=_ from h.2.1];exact (kP1 (h.2.2.k) hZ.r.blk (ne9 rfl)).2 hb⟩,trivial⟩⟩) ?_;clear F H A;intro S6 vv W A hR H F;obtain ⟨rfl,hS6,hZ9⟩:=hR
 try dsimp only at H
 replace hPp:=hPp.propK hZ9.k (uO1 hZ.r);replace hZ:=hZ.step hZ9 tq1;clear hZ9;have h86:=ql S;refine j3 F rfl (jK rfl (F.e rfl)) ?_;intro A F;refine zd ?_;intro A F;let P7:Pk:={P with code:=S.num 1}
 refine zs [] ((Pk.cells P7 s)) ?_;intro W H9 hk;replace hZ:=hZ.st (H.b.at_ (j:=0) rfl).1 (ne9 rfl) (ne9 rfl) (.inr (.inr (.inl rfl))) hk;replace hPp:=hPp.propK hk (jq (H.b.at_ (j:=0) rfl).1 (jn _ _));clear H hk;have H:=H9;clear H9;refine nn (hK5 _ _) ?_;refine sg λK8 hK8=>?_;refine zd ?_;intro A F;refine j3 F rfl (jK rfl (F.e rfl)) ?_;intro A F
 iterate 2 (refine zd ?_;intro A F)
 refine jU F H rfl (j5 rfl rfl (j4 (F.e rfl) j8) j9j) (j9y hZ) ?_;clear F H A;intro W A hk H F;replace hZ:=hZ.no hk;replace hPp:=hPp.keptNo hk;clear hk;refine zb (qa (i:=S6.l.length) (j:=0)) ?_;intro A F;refine nn (hK8 _ _) ?_;refine zc (λhb10=>?_) (λhb10=>?_)
 ·skip
  replace F:=((F.nil.cons (F.g 1 _ rfl)).cons (F.g 0 _ rfl))
  refine jC ?_
  iterate 2 (refine zd ?_;intro A F)
  obtain ⟨htb,ht0⟩:=H.b.at_ (j:=1) rfl;refine jI (λ(x:Ts × Option Addr × Nat)=>[⟨q,27,(Pk.cells P7 s)⟩,⟨t,56,#[(.int .i64 v),(.pointer (some ⟨r,0,none⟩)),(.bool x.1.b)]⟩]) (λx=>ScP _ v t r (S6.sec v) (S6.rdS v) x.1 x.2.1 x.2.2) F rfl (j5 rfl rfl (j4 (F.e rfl) j8) j54) (zS w0 _ t r v S6 ⟨H.k,htb,ht0,by simp,trivial⟩ hr0 hZ.r hZ.n hT) (λx9 _ _ h=>Hp.re H (h.z.k) (ge2 hr0 ht0) ⟨kP2 (h.z.k) hZ.r.blk (ne9 rfl) htb (ne9 rfl),⟨⟨rfl,λ_=>h.tb⟩,trivial⟩⟩) ?_;clear F H A;intro x9 vv W A hR H F;obtain ⟨S11,a11,c11⟩:=x9;replace hR:ScP _ v t r (S6.sec v) (S6.rdS v) S11 a11 c11 vv W:=hR;obtain ⟨rfl,hS11,hZ9,-,hP11⟩:=hR
  try dsimp only at H
  replace hPp:=hPp.propK hZ9.k (uO2 hZ.r htb (nu3 (by simp) (by simp) (by simp)));replace hZ:=hZ.step hZ9 tq2;clear hZ9;clear htb ht0;refine j3 F rfl (jK rfl (F.e rfl)) ?_;intro A F;refine zd ?_;intro A F;let s12:Sl:={s with pa:=a11,pc:=c11}
  let P13:Pk:={P7 with props:=(S6.sec v)}
  refine zs [] ((Pk.cells P13 s12)) ?_;intro W H9 hk;replace hZ:=hZ.st (H.b.at_ (j:=0) rfl).1 (ne9 rfl) (ne9 rfl) (.inr (.inr (.inl rfl))) hk;replace hPp:=hPp.propK hk (jq (H.b.at_ (j:=0) rfl).1 (jn _ _));replace hP11:=hP11.propK hk (jq (H.b.at_ (j:=0) rfl).1 (jn _ _));clear H hk;have H:=H9;clear H9;refine wpList_nil ?_;refine (show bodyPost _ Tryz.f52 RR Exit.normal _ _ from zn0 ?_);exact (by have hK9:=(show qg v P S=_ from (if_neg (by have h9:=hb4;simpa using h9)).trans (if_neg (by have h9:=of_decide_eq_true hb10;simp only[hS6]at h9;omega)));subst hS11 hS6;exact ⟨_,(_,_,s12),rfl,⟨rfl,(congrArg Prod.snd hK9).symm,(congrArg Prod.fst hK9).symm,hZ,(H.b.at_ (j:=1) rfl).1,(H.b.at_ (j:=0) rfl).1,xf hE.w,hP11,hE.nf,hE.nc,hE.sc⟩⟩)
 replace F:=((F.nil.cons (F.g 1 _ rfl)).cons (F.g 0 _ rfl))
 refine wp_skip ?_;refine (show bodyPost _ Tryz.f52 RR Exit.normal _ _ from zn0 ?_);exact (by have hK9:=(show qg v P S=_ from (if_neg (by have h9:=hb4;simpa using h9)).trans (if_pos (by have h9:=of_decide_eq_false hb10;simp only[hS6]at h9;omega)));subst hS6;exact ⟨_,(_,_,s),rfl,⟨rfl,(congrArg Prod.snd hK9).symm,(congrArg Prod.fst hK9).symm,hZ,(H.b.at_ (j:=1) rfl).1,(H.b.at_ (j:=0) rfl).1,xf hE.w,hPp,hE.nf,hE.nc,hE.sc⟩⟩)
theorem jF7 (w0 w:World) (t q r:Nat) (v:Int) (S:Ts) (P:Pk) (s:Sl) (H:Hp w0 w [⟨q,27,(Pk.cells P s)⟩,⟨t,56,#[(.int .i64 v),(.pointer (some ⟨r,0,none⟩)),(.bool S.b)]⟩]) (hr0:w0.heap.size≤r) (hR:Rdr w r S.l S.e) (hn:S.l.length≤100000) (hE:Emp w P s) (n:Nat) (hn8:n<256) (hT:Tabs w0) :
  Calls Tryz.prog 93 #[.pointer (some ⟨t,0,none⟩),.pointer (some ⟨q,0,none⟩),.int .u8 n] w λe w'=>∃ u,∃ x:Ts × Pk × Sl,e=.returned u∧(λx=>KcP w v t q r (z8 v n P S) x.1 x.2.1 x.2.2) x u w':=by
 have HB:=H;clear H;let RR:Ending→World→Prop:=λe w'=>∃ u,∃ x:Ts × Pk × Sl,e=.returned u∧(λx=>KcP w v t q r (z8 v n P S) x.1 x.2.1 x.2.2) x u w'
 go_enter Tryz.func93,Tryz.ntmps93
 generalize hA:({tmps:=_,defers:=[]}:Act)=A;have F:Fr A 52 [(2,(.int .u8 ((n:Int)))),(1,(.pointer (some ⟨q,0,none⟩))),(0,(.pointer (some ⟨t,0,none⟩)))]:=by rw[← hA];exact (Fr.cons (i:=2) (v:=(.int .u8 ((n:Int)))) (Fr.cons (i:=1) (v:=(.pointer (some ⟨q,0,none⟩))) (Fr.cons (i:=0) (v:=(.pointer (some ⟨t,0,none⟩))) (Fr.nil0 rfl rfl) rfl) rfl) rfl)
 clear hA;have H:=HB;clear HB;have hZ:Rk w (Tq t q r) r S w:=Rk.start hR hn;clear hR hn;have htq:t<q:=H.b.2.2.1 _ (List.mem_cons_self ..);have hPp:=hE.p;refine sg λK1 hK1=>?_
 iterate 2 (refine zd ?_;intro A F)
 refine j3 F rfl (jF rfl (F.e rfl) jA (vV (m:=n) (n:=4) (by omega) (by decide))) ?_;intro A F;refine zb (qN (i:=((n &&& 4))) (j:=0)) ?_;intro A F;refine j3 F rfl (jK rfl (F.e rfl)) ?_;intro A F;refine zd ?_;intro A F;let P2:Pk:={P with hasWill:=!decide (((n &&& 4))=0)}
 refine zs [] ((Pk.cells P2 s)) ?_;intro W H9 hk;replace hZ:=hZ.st (H.b.at_ (j:=0) rfl).1 (ne9 rfl) (ne9 rfl) (.inr (.inr (.inl rfl))) hk;replace hPp:=hPp.propK hk (jq (H.b.at_ (j:=0) rfl).1 (jn _ _));clear H hk;have H:=H9;clear H9;refine nn (hK1 _ _) ?_;refine wp_seq_k λK3 hK3=>?_;refine sg λK4 hK4=>?_;refine zd ?_;intro A F;refine j3 F rfl (jK rfl (F.e rfl)) ?_;intro A F
 iterate 3 (refine zd ?_;intro A F)
 refine nn (hK4 _ _) ?_;refine zc (λhb5=>?_) (λhb5=>?_)
 ·skip
  refine sg λK6 hK6=>?_
  iterate 2 (refine zd ?_;intro A F)
  refine j3 F rfl (jF rfl (F.e rfl) jA (vV (m:=n) (n:=56) (by omega) (by decide))) ?_;intro A F;refine zb (jt (i:=((n &&& 56))) (j:=0)) ?_;intro A F;obtain ⟨htb,ht0⟩:=H.b.at_ (j:=1) rfl;refine jI (λ(x:Ts)=>[⟨q,27,(Pk.cells P2 s)⟩,⟨t,56,#[(.int .i64 v),(.pointer (some ⟨r,0,none⟩)),(.bool x.b)]⟩]) (TcP _ v t r (.tuple #[]) (S.need (decide (((n &&& 56))=0)))) F rfl (j5 rfl rfl (j4 (F.e rfl) (j4 (F.e rfl) j8)) j56) (zQ w0 _ t r v S ⟨H.k,htb,ht0,by simp,trivial⟩ hr0 hZ.r hZ.n (decide (((n &&& 56))=0))) (λS7 _ _ h=>Hp.re H (h.z.k) (ge2 hr0 ht0) ⟨kP2 (h.z.k) hZ.r.blk (ne9 rfl) htb (ne9 rfl),⟨⟨rfl,λ_=>h.tb⟩,trivial⟩⟩) ?_;clear F H A;intro S7 vv W A hR H F;obtain ⟨rfl,hS7,hZ9,-⟩:=hR
  try dsimp only at H
  replace hPp:=hPp.propK hZ9.k (uO2 hZ.r htb (nu3 (by simp) (by simp) (by simp)));replace hZ:=hZ.step hZ9 tq2;clear hZ9;clear htb ht0;refine nn (hK6 _ _) ?_;refine j9 ?_;refine (show bodyPost _ Tryz.f93 RR Exit.ret _ _ from zr0 ?_);exact (by have hK9:=(show z8 v n P S=_ from if_neg (by have h9:(!(!decide (((n &&& 4))=0)))=true:=hb5;simpa using h9));subst hS7;exact ⟨_,(_,_,s),rfl,⟨rfl,(congrArg Prod.snd hK9).symm,(congrArg Prod.fst hK9).symm,hZ,(H.b.at_ (j:=1) rfl).1,(H.b.at_ (j:=0) rfl).1,xf hE.w,hPp,hE.nf,hE.nc,hE.sc⟩⟩)
 refine wp_skip (hK3 _ _ ?_);refine sg λK8 hK8=>?_
 iterate 2 (refine zd ?_;intro A F)
 refine j3 F rfl (jF rfl (F.e rfl) jA (vu (i:=n) (j:=8) (by decide) (vf (by omega) (by omega)))) ?_;intro A F;refine j3 F rfl (jF rfl (F.e rfl) jA (vV (m:=(n / 8)) (n:=3) (by omega) (by decide))) ?_;intro A F;refine j3 F rfl (jK rfl (F.e rfl)) ?_;intro A F;refine zd ?_;intro A F;let P9:Pk:={P2 with willQoS:=((((n / 8)) &&& 3))}
 refine zs [] ((Pk.cells P9 s)) ?_;intro W H9 hk;replace hZ:=hZ.st (H.b.at_ (j:=0) rfl).1 (ne9 rfl) (ne9 rfl) (.inr (.inr (.inl rfl))) hk;replace hPp:=hPp.propK hk (jq (H.b.at_ (j:=0) rfl).1 (jn _ _));clear H hk;have H:=H9;clear H9;refine nn (hK8 _ _) ?_;refine sg λK10 hK10=>?_
 iterate 2 (refine zd ?_;intro A F)
 refine j3 F rfl (jF rfl (F.e rfl) jA (vV (m:=n) (n:=32) (by omega) (by decide))) ?_;intro A F;refine zb (qN (i:=((n &&& 32))) (j:=0)) ?_;intro A F;refine j3 F rfl (jK rfl (F.e rfl)) ?_;intro A F;refine zd ?_;intro A F;let P11:Pk:={P9 with willRetain:=!decide (((n &&& 32))=0)}
 refine zs [] ((Pk.cells P11 s)) ?_;intro W H9 hk;replace hZ:=hZ.st (H.b.at_ (j:=0) rfl).1 (ne9 rfl) (ne9 rfl) (.inr (.inr (.inl rfl))) hk;replace hPp:=hPp.propK hk (jq (H.b.at_ (j:=0) rfl).1 (jn _ _));clear H hk;have H:=H9;clear H9;refine nn (hK10 _ _) ?_;refine sg λK12 hK12=>?_
 iterate 2 (refine zd ?_;intro A F)
 obtain ⟨htb,ht0⟩:=H.b.at_ (j:=1) rfl;refine jI (λ(x:Ts × Option Addr × Nat)=>[⟨q,27,(Pk.cells P11 s)⟩,⟨t,56,#[(.int .i64 v),(.pointer (some ⟨r,0,none⟩)),(.bool x.1.b)]⟩]) (λx=>ScP _ v t r (S.sec v) (S.rdS v) x.1 x.2.1 x.2.2) F rfl (j5 rfl rfl (j4 (F.e rfl) j8) j54) (zS w0 _ t r v S ⟨H.k,htb,ht0,by simp,trivial⟩ hr0 hZ.r hZ.n hT) (λx9 _ _ h=>Hp.re H (h.z.k) (ge2 hr0 ht0) ⟨kP2 (h.z.k) hZ.r.blk (ne9 rfl) htb (ne9 rfl),⟨⟨rfl,λ_=>h.tb⟩,trivial⟩⟩) ?_;clear F H A;intro x9 vv W A hR H F;obtain ⟨S13,a13,c13⟩:=x9;replace hR:ScP _ v t r (S.sec v) (S.rdS v) S13 a13 c13 vv W:=hR;obtain ⟨rfl,hS13,hZ9,-,hP13⟩:=hR
 try dsimp only at H
 replace hPp:=hPp.propK hZ9.k (uO2 hZ.r htb (nu3 (by simp) (by simp) (by simp)));replace hZ:=hZ.step hZ9 tq2;clear hZ9;clear htb ht0;refine j3 F rfl (jK rfl (F.e rfl)) ?_;intro A F;refine zd ?_;intro A F;let s14:Sl:={s with wa:=a13,wc:=c13}
 let P15:Pk:={P11 with willProps:=(S.sec v)}
 refine zs [] ((Pk.cells P15 s14)) ?_;intro W H9 hk;replace hZ:=hZ.st (H.b.at_ (j:=0) rfl).1 (ne9 rfl) (ne9 rfl) (.inr (.inr (.inl rfl))) hk;replace hPp:=hPp.propK hk (jq (H.b.at_ (j:=0) rfl).1 (jn _ _));replace hP13:=hP13.propK hk (jq (H.b.at_ (j:=0) rfl).1 (jn _ _));clear H hk;have H:=H9;clear H9;refine nn (hK12 _ _) ?_;refine sg λK16 hK16=>?_
 iterate 2 (refine zd ?_;intro A F)
 obtain ⟨htb,ht0⟩:=H.b.at_ (j:=1) rfl;refine jI (λ(x:Ts)=>[⟨q,27,(Pk.cells P15 s14)⟩,⟨t,56,#[(.int .i64 v),(.pointer (some ⟨r,0,none⟩)),(.bool x.b)]⟩]) (TcP _ v t r (.string S13.bin) S13.rdT) F rfl (j5 rfl rfl (j4 (F.e rfl) j8) j9m) (j1f w0 _ t r v S13 ⟨H.k,htb,ht0,by simp,trivial⟩ hr0 hZ.r hZ.n hT) (λS17 _ _ h=>Hp.re H (h.z.k) (ge2 hr0 ht0) ⟨kP2 (h.z.k) hZ.r.blk (ne9 rfl) htb (ne9 rfl),⟨⟨rfl,λ_=>h.tb⟩,trivial⟩⟩) ?_;clear F H A;intro S17 vv W A hR H F;obtain ⟨rfl,hS17,hZ9,-⟩:=hR
 try dsimp only at H
 replace hPp:=hPp.propK hZ9.k (uO2 hZ.r htb (nu3 (by simp) (by simp) (by simp)));replace hP13:=hP13.propK hZ9.k (uO2 hZ.r htb (nu3 (by simp) (by simp) (by simp)));replace hZ:=hZ.step hZ9 tq2;clear hZ9;clear htb ht0;refine j3 F rfl (jK rfl (F.e rfl)) ?_;intro A F;refine zd ?_;intro A F;let P18:Pk:={P15 with willTopic:=S13.bin}
 refine zs [] ((Pk.cells P18 s14)) ?_;intro W H9 hk;replace hZ:=hZ.st (H.b.at_ (j:=0) rfl).1 (ne9 rfl) (ne9 rfl) (.inr (.inr (.inl rfl))) hk;replace hPp:=hPp.propK hk (jq (H.b.at_ (j:=0) rfl).1 (jn _ _));replace hP13:=hP13.propK hk (jq (H.b.at_ (j:=0) rfl).1 (jn _ _));clear H hk;have H:=H9;clear H9;refine nn (hK16 _ _) ?_;refine jC ?_
 iterate 2 (refine zd ?_;intro A F)
 refine j3 F rfl (jK rfl (F.e rfl)) ?_;intro A F
 iterate 2 (refine zd ?_;intro A F)
 refine jI (λ(x:Ts)=>[⟨q,27,(Pk.cells P18 s14)⟩,⟨t,56,#[(.int .i64 v),(.pointer (some ⟨r,0,none⟩)),(.bool x.b)]⟩]) (RdP _ r (.string S17.bin) S17.rdB) F rfl (j5 rfl rfl (j4 (F.e rfl) j8) jD3) (jJx hZ) (λS19 _ _ h=>Hp.re H (h.2.2.k) (ge1 hr0) ⟨kP1 (h.2.2.k) hZ.r.blk (ne9 rfl),⟨⟨rfl,λhb=>by rw[show S19=_ from h.2.1];exact (kP1 (h.2.2.k) hZ.r.blk (ne9 rfl)).2 hb⟩,trivial⟩⟩) ?_;clear F H A;intro S19 vv W A hR H F;obtain ⟨rfl,hS19,hZ9⟩:=hR
 try dsimp only at H
 replace hPp:=hPp.propK hZ9.k (uO1 hZ.r);replace hP13:=hP13.propK hZ9.k (uO1 hZ.r);replace hZ:=hZ.step hZ9 tq1;clear hZ9;refine j3 F rfl (jK rfl (F.e rfl)) ?_;intro A F;refine zd ?_;intro A F;let P20:Pk:={P18 with willLoad:=S17.bin}
 refine zs [] ((Pk.cells P20 s14)) ?_;intro W H9 hk;replace hZ:=hZ.st (H.b.at_ (j:=0) rfl).1 (ne9 rfl) (ne9 rfl) (.inr (.inr (.inl rfl))) hk;replace hPp:=hPp.propK hk (jq (H.b.at_ (j:=0) rfl).1 (jn _ _));replace hP13:=hP13.propK hk (jq (H.b.at_ (j:=0) rfl).1 (jn _ _));clear H hk;have H:=H9;clear H9;refine wpList_nil ?_;refine (show bodyPost _ Tryz.f93 RR Exit.normal _ _ from zn0 ?_);exact (by have hK9:=(show z8 v n P S=_ from if_pos (by have h9:(!(!decide (((n &&& 4))=0)))=false:=hb5;simpa using h9));subst hS19 hS17 hS13;exact ⟨_,(_,_,s14),rfl,⟨rfl,(congrArg Prod.snd hK9).symm,(congrArg Prod.fst hK9).symm,hZ,(H.b.at_ (j:=1) rfl).1,(H.b.at_ (j:=0) rfl).1,hP13,hPp,hE.nf,hE.nc,hE.sc⟩⟩)
theorem j7x (w0 w:World) (t q r:Nat) (v:Int) (S:Ts) (P:Pk) (s:Sl) (H:Hp w0 w [⟨q,27,(Pk.cells P s)⟩,⟨t,56,#[(.int .i64 v),(.pointer (some ⟨r,0,none⟩)),(.bool S.b)]⟩]) (hr0:w0.heap.size≤r) (hR:Rdr w r S.l S.e) (hn:S.l.length≤100000) (hE:Emp w P s) (hP2:P=zk 2) (hT:Tabs w0) :
  Calls Tryz.prog 49 #[.pointer (some ⟨t,0,none⟩),.pointer (some ⟨q,0,none⟩)] w λe w'=>∃ u,∃ x:Ts × Pk × Sl,e=.returned u∧(λx=>KcP w v t q r (zK v S) x.1 x.2.1 x.2.2) x u w':=by
 have HB:=H;clear H;let RR:Ending→World→Prop:=λe w'=>∃ u,∃ x:Ts × Pk × Sl,e=.returned u∧(λx=>KcP w v t q r (zK v S) x.1 x.2.1 x.2.2) x u w'
 go_enter Tryz.func49,Tryz.ntmps49
 generalize hA:({tmps:=_,defers:=[]}:Act)=A;have F:Fr A 32 [(1,(.pointer (some ⟨q,0,none⟩))),(0,(.pointer (some ⟨t,0,none⟩)))]:=by rw[← hA];exact (Fr.cons (i:=1) (v:=(.pointer (some ⟨q,0,none⟩))) (Fr.cons (i:=0) (v:=(.pointer (some ⟨t,0,none⟩))) (Fr.nil0 rfl rfl) rfl) rfl)
 clear hA;have H:=HB;clear HB;have hZ:Rk w (Tq t q r) r S w:=Rk.start hR hn;clear hR hn;have htq:t<q:=H.b.2.2.1 _ (List.mem_cons_self ..);have hPp:=hE.p;refine sg λK1 hK1=>?_;refine zd ?_;intro A F;refine j3 F rfl (jK rfl (F.e rfl)) ?_;intro A F
 iterate 2 (refine zd ?_;intro A F)
 refine jI (λ(x:Ts)=>[⟨q,27,(Pk.cells P s)⟩,⟨t,56,#[(.int .i64 v),(.pointer (some ⟨r,0,none⟩)),(.bool x.b)]⟩]) (RdP _ r (.int .u8 ((S.num 1:Int))) (S.rd 1)) F rfl (j5 rfl rfl (j4 (F.e rfl) j8) j53) (j5f hZ) (λS2 _ _ h=>Hp.re H (h.2.2.k) (ge1 hr0) ⟨kP1 (h.2.2.k) hZ.r.blk (ne9 rfl),⟨⟨rfl,λhb=>by rw[show S2=_ from h.2.1];exact (kP1 (h.2.2.k) hZ.r.blk (ne9 rfl)).2 hb⟩,trivial⟩⟩) ?_;clear F H A;intro S2 vv W A hR H F;obtain ⟨rfl,hS2,hZ9⟩:=hR
 try dsimp only at H
 replace hPp:=hPp.propK hZ9.k (uO1 hZ.r);replace hZ:=hZ.step hZ9 tq1;clear hZ9;have h82:=ql S;refine zd ?_;intro A F;refine nn (hK1 _ _) ?_;refine sg λK3 hK3=>?_
 iterate 2 (refine zd ?_;intro A F)
 refine zb (j1l (i:=S.num 1) (j:=1)) ?_;intro A F;obtain ⟨htb,ht0⟩:=H.b.at_ (j:=1) rfl;refine jI (λ(x:Ts)=>[⟨q,27,(Pk.cells P s)⟩,⟨t,56,#[(.int .i64 v),(.pointer (some ⟨r,0,none⟩)),(.bool x.b)]⟩]) (TcP _ v t r (.tuple #[]) (S2.need (decide (S.num 1≤1)))) F rfl (j5 rfl rfl (j4 (F.e rfl) (j4 (F.e rfl) j8)) j56) (zQ w0 _ t r v S2 ⟨H.k,htb,ht0,by simp,trivial⟩ hr0 hZ.r hZ.n (decide (S.num 1≤1))) (λS4 _ _ h=>Hp.re H (h.z.k) (ge2 hr0 ht0) ⟨kP2 (h.z.k) hZ.r.blk (ne9 rfl) htb (ne9 rfl),⟨⟨rfl,λ_=>h.tb⟩,trivial⟩⟩) ?_;clear F H A;intro S4 vv W A hR H F;obtain ⟨rfl,hS4,hZ9,-⟩:=hR
 try dsimp only at H
 replace hPp:=hPp.propK hZ9.k (uO2 hZ.r htb (nu3 (by simp) (by simp) (by simp)));replace hZ:=hZ.step hZ9 tq2;clear hZ9;clear htb ht0;refine nn (hK3 _ _) ?_;refine sg λK5 hK5=>?_
 iterate 2 (refine zd ?_;intro A F)
 refine zb (jt (i:=S.num 1) (j:=1)) ?_;intro A F;refine j3 F rfl (jK rfl (F.e rfl)) ?_;intro A F;refine zd ?_;intro A F;let P6:Pk:={P with present:=decide (S.num 1=1)}
 refine zs [] ((Pk.cells P6 s)) ?_;intro W H9 hk;replace hZ:=hZ.st (H.b.at_ (j:=0) rfl).1 (ne9 rfl) (ne9 rfl) (.inr (.inr (.inl rfl))) hk;replace hPp:=hPp.propK hk (jq (H.b.at_ (j:=0) rfl).1 (jn _ _));clear H hk;have H:=H9;clear H9;refine nn (hK5 _ _) ?_;refine sg λK7 hK7=>?_
 iterate 2 (refine zd ?_;intro A F)
 refine j3 F rfl (jK rfl (F.e rfl)) ?_;intro A F
 iterate 2 (refine zd ?_;intro A F)
 refine jI (λ(x:Ts)=>[⟨q,27,(Pk.cells P6 s)⟩,⟨t,56,#[(.int .i64 v),(.pointer (some ⟨r,0,none⟩)),(.bool x.b)]⟩]) (RdP _ r (.int .u8 ((S4.num 1:Int))) (S4.rd 1)) F rfl (j5 rfl rfl (j4 (F.e rfl) j8) j53) (j5f hZ) (λS8 _ _ h=>Hp.re H (h.2.2.k) (ge1 hr0) ⟨kP1 (h.2.2.k) hZ.r.blk (ne9 rfl),⟨⟨rfl,λhb=>by rw[show S8=_ from h.2.1];exact (kP1 (h.2.2.k) hZ.r.blk (ne9 rfl)).2 hb⟩,trivial⟩⟩) ?_;clear F H A;intro S8 vv W A hR H F;obtain ⟨rfl,hS8,hZ9⟩:=hR
 try dsimp only at H
 replace hPp:=hPp.propK hZ9.k (uO1 hZ.r);replace hZ:=hZ.step hZ9 tq1;clear hZ9;have h88:=ql S4;refine j3 F rfl (jK rfl (F.e rfl)) ?_;intro A F;refine zd ?_;intro A F;let P9:Pk:={P6 with code:=S4.num 1}
 refine zs [] ((Pk.cells P9 s)) ?_;intro W H9 hk;replace hZ:=hZ.st (H.b.at_ (j:=0) rfl).1 (ne9 rfl) (ne9 rfl) (.inr (.inr (.inl rfl))) hk;replace hPp:=hPp.propK hk (jq (H.b.at_ (j:=0) rfl).1 (jn _ _));clear H hk;have H:=H9;clear H9;refine nn (hK7 _ _) ?_;refine jC ?_
 iterate 2 (refine zd ?_;intro A F)
 obtain ⟨htb,ht0⟩:=H.b.at_ (j:=1) rfl;refine jI (λ(x:Ts × Option Addr × Nat)=>[⟨q,27,(Pk.cells P9 s)⟩,⟨t,56,#[(.int .i64 v),(.pointer (some ⟨r,0,none⟩)),(.bool x.1.b)]⟩]) (λx=>ScP _ v t r (S8.sec v) (S8.rdS v) x.1 x.2.1 x.2.2) F rfl (j5 rfl rfl (j4 (F.e rfl) j8) j54) (zS w0 _ t r v S8 ⟨H.k,htb,ht0,by simp,trivial⟩ hr0 hZ.r hZ.n hT) (λx9 _ _ h=>Hp.re H (h.z.k) (ge2 hr0 ht0) ⟨kP2 (h.z.k) hZ.r.blk (ne9 rfl) htb (ne9 rfl),⟨⟨rfl,λ_=>h.tb⟩,trivial⟩⟩) ?_;clear F H A;intro x9 vv W A hR H F;obtain ⟨S10,a10,c10⟩:=x9;replace hR:ScP _ v t r (S8.sec v) (S8.rdS v) S10 a10 c10 vv W:=hR;obtain ⟨rfl,hS10,hZ9,-,hP10⟩:=hR
 try dsimp only at H
 replace hPp:=hPp.propK hZ9.k (uO2 hZ.r htb (nu3 (by simp) (by simp) (by simp)));replace hZ:=hZ.step hZ9 tq2;clear hZ9;clear htb ht0;refine j3 F rfl (jK rfl (F.e rfl)) ?_;intro A F;refine zd ?_;intro A F;let s11:Sl:={s with pa:=a10,pc:=c10}
 let P12:Pk:={P9 with props:=(S8.sec v)}
 refine zs [] ((Pk.cells P12 s11)) ?_;intro W H9 hk;replace hZ:=hZ.st (H.b.at_ (j:=0) rfl).1 (ne9 rfl) (ne9 rfl) (.inr (.inr (.inl rfl))) hk;replace hPp:=hPp.propK hk (jq (H.b.at_ (j:=0) rfl).1 (jn _ _));replace hP10:=hP10.propK hk (jq (H.b.at_ (j:=0) rfl).1 (jn _ _));clear H hk;have H:=H9;clear H9;refine wpList_nil ?_;refine (show bodyPost _ Tryz.f49 RR Exit.normal _ _ from zn0 ?_);exact (by have hK9:=(show zK v S=_ from rfl);subst hS10 hS8 hS4 hS2 hP2;exact ⟨_,(_,_,s11),rfl,⟨rfl,(congrArg Prod.snd hK9).symm,(congrArg Prod.fst hK9).symm,hZ,(H.b.at_ (j:=1) rfl).1,(H.b.at_ (j:=0) rfl).1,xf hE.w,hP10,hE.nf,hE.nc,hE.sc⟩⟩)
theorem j8m (w0 w:World) (t q r:Nat) (v:Int) (S:Ts) (P:Pk) (s:Sl) (H:Hp w0 w [⟨q,27,(Pk.cells P s)⟩,⟨t,56,#[(.int .i64 v),(.pointer (some ⟨r,0,none⟩)),(.bool S.b)]⟩]) (hr0:w0.heap.size≤r) (hR:Rdr w r S.l S.e) (hn:S.l.length≤100000) (hE:Emp w P s) (hP3:P=zk 3) (n:Nat) (hn8:n<256) (hT:Tabs w0) :
  Calls Tryz.prog 50 #[.pointer (some ⟨t,0,none⟩),.pointer (some ⟨q,0,none⟩),.int .u8 n] w λe w'=>∃ u,∃ x:Ts × Pk × Sl,e=.returned u∧(λx=>KcP w v t q r (j3t v n S) x.1 x.2.1 x.2.2) x u w':=by
 have HB:=H;clear H;let RR:Ending→World→Prop:=λe w'=>∃ u,∃ x:Ts × Pk × Sl,e=.returned u∧(λx=>KcP w v t q r (j3t v n S) x.1 x.2.1 x.2.2) x u w'
 go_enter Tryz.func50,Tryz.ntmps50
 generalize hA:({tmps:=_,defers:=[]}:Act)=A;have F:Fr A 55 [(2,(.int .u8 ((n:Int)))),(1,(.pointer (some ⟨q,0,none⟩))),(0,(.pointer (some ⟨t,0,none⟩)))]:=by rw[← hA];exact (Fr.cons (i:=2) (v:=(.int .u8 ((n:Int)))) (Fr.cons (i:=1) (v:=(.pointer (some ⟨q,0,none⟩))) (Fr.cons (i:=0) (v:=(.pointer (some ⟨t,0,none⟩))) (Fr.nil0 rfl rfl) rfl) rfl) rfl)
 clear hA;have H:=HB;clear HB;have hZ:Rk w (Tq t q r) r S w:=Rk.start hR hn;clear hR hn;have htq:t<q:=H.b.2.2.1 _ (List.mem_cons_self ..);have hPp:=hE.p;refine sg λK1 hK1=>?_
 iterate 2 (refine zd ?_;intro A F)
 refine j3 F rfl (jF rfl (F.e rfl) jA (vV (m:=n) (n:=8) (by omega) (by decide))) ?_;intro A F;refine zb (qN (i:=((n &&& 8))) (j:=0)) ?_;intro A F;refine j3 F rfl (jK rfl (F.e rfl)) ?_;intro A F;refine zd ?_;intro A F;let P2:Pk:={P with dup:=!decide (((n &&& 8))=0)}
 refine zs [] ((Pk.cells P2 s)) ?_;intro W H9 hk;replace hZ:=hZ.st (H.b.at_ (j:=0) rfl).1 (ne9 rfl) (ne9 rfl) (.inr (.inr (.inl rfl))) hk;replace hPp:=hPp.propK hk (jq (H.b.at_ (j:=0) rfl).1 (jn _ _));clear H hk;have H:=H9;clear H9;refine nn (hK1 _ _) ?_;refine sg λK3 hK3=>?_
 iterate 2 (refine zd ?_;intro A F)
 refine j3 F rfl (jF rfl (F.e rfl) jA (vu (i:=n) (j:=2) (by decide) (vf (by omega) (by omega)))) ?_;intro A F;refine j3 F rfl (jF rfl (F.e rfl) jA (vV (m:=(n / 2)) (n:=3) (by omega) (by decide))) ?_;intro A F;refine j3 F rfl (jK rfl (F.e rfl)) ?_;intro A F;refine zd ?_;intro A F;let P4:Pk:={P2 with qos:=((((n / 2)) &&& 3))}
 refine zs [] ((Pk.cells P4 s)) ?_;intro W H9 hk;replace hZ:=hZ.st (H.b.at_ (j:=0) rfl).1 (ne9 rfl) (ne9 rfl) (.inr (.inr (.inl rfl))) hk;replace hPp:=hPp.propK hk (jq (H.b.at_ (j:=0) rfl).1 (jn _ _));clear H hk;have H:=H9;clear H9;refine nn (hK3 _ _) ?_;refine sg λK5 hK5=>?_
 iterate 2 (refine zd ?_;intro A F)
 refine j3 F rfl (jF rfl (F.e rfl) jA (vV (m:=n) (n:=1) (by omega) (by decide))) ?_;intro A F;refine zb (qN (i:=((n &&& 1))) (j:=0)) ?_;intro A F;refine j3 F rfl (jK rfl (F.e rfl)) ?_;intro A F;refine zd ?_;intro A F;let P6:Pk:={P4 with retain:=!decide (((n &&& 1))=0)}
 refine zs [] ((Pk.cells P6 s)) ?_;intro W H9 hk;replace hZ:=hZ.st (H.b.at_ (j:=0) rfl).1 (ne9 rfl) (ne9 rfl) (.inr (.inr (.inl rfl))) hk;replace hPp:=hPp.propK hk (jq (H.b.at_ (j:=0) rfl).1 (jn _ _));clear H hk;have H:=H9;clear H9;refine nn (hK5 _ _) ?_;refine sg λK7 hK7=>?_
 iterate 2 (refine zd ?_;intro A F)
 obtain ⟨htb,ht0⟩:=H.b.at_ (j:=1) rfl;refine jI (λ(x:Ts)=>[⟨q,27,(Pk.cells P6 s)⟩,⟨t,56,#[(.int .i64 v),(.pointer (some ⟨r,0,none⟩)),(.bool x.b)]⟩]) (TcP _ v t r (.string S.bin) S.rdT) F rfl (j5 rfl rfl (j4 (F.e rfl) j8) j9m) (j1f w0 _ t r v S ⟨H.k,htb,ht0,by simp,trivial⟩ hr0 hZ.r hZ.n hT) (λS8 _ _ h=>Hp.re H (h.z.k) (ge2 hr0 ht0) ⟨kP2 (h.z.k) hZ.r.blk (ne9 rfl) htb (ne9 rfl),⟨⟨rfl,λ_=>h.tb⟩,trivial⟩⟩) ?_;clear F H A;intro S8 vv W A hR H F;obtain ⟨rfl,hS8,hZ9,-⟩:=hR
 try dsimp only at H
 replace hPp:=hPp.propK hZ9.k (uO2 hZ.r htb (nu3 (by simp) (by simp) (by simp)));replace hZ:=hZ.step hZ9 tq2;clear hZ9;clear htb ht0;refine j3 F rfl (jK rfl (F.e rfl)) ?_;intro A F;refine zd ?_;intro A F;let P9:Pk:={P6 with topic:=S.bin}
 refine zs [] ((Pk.cells P9 s)) ?_;intro W H9 hk;replace hZ:=hZ.st (H.b.at_ (j:=0) rfl).1 (ne9 rfl) (ne9 rfl) (.inr (.inr (.inl rfl))) hk;replace hPp:=hPp.propK hk (jq (H.b.at_ (j:=0) rfl).1 (jn _ _));clear H hk;have H:=H9;clear H9;refine nn (hK7 _ _) ?_;refine vS (λA W=>∃ i10:Nat,∃ S10:Ts,Fr A 55 [(0,(.pointer (some ⟨t,0,none⟩))),(1,(.pointer (some ⟨q,0,none⟩)))]∧Hp w0 W [⟨q,27,(Pk.cells ({P9 with id:=i10}) s)⟩,⟨t,56,#[(.int .i64 v),(.pointer (some ⟨r,0,none⟩)),(.bool S10.b)]⟩]∧(i10=(if (n / 2 &&& 3)=0 then (P9).id else S8.num 2))∧(S10=(if (n / 2 &&& 3)=0 then S8 else S8.rd 2))∧(Rk w (Tq t q r) r S10 W)∧(Row W s.pa (PC P.props))) (λA W hM=>?_) (λK11 hK11=>?_)
 rotate_left
 ·skip
  refine sg λK12 hK12=>?_;refine zd ?_;intro A F;refine j3 F rfl (jK rfl (F.e rfl)) ?_;intro A F
  iterate 2 (refine zd ?_;intro A F)
  refine zb (qN (i:=((((n / 2)) &&& 3))) (j:=0)) ?_;intro A F;refine nn (hK12 _ _) ?_;refine zc (λhb13=>?_) (λhb13=>?_)
  ·skip
   replace F:=((F.nil.cons (F.g 1 _ rfl)).cons (F.g 0 _ rfl))
   refine jC ?_
   iterate 2 (refine zd ?_;intro A F)
   refine j3 F rfl (jK rfl (F.e rfl)) ?_;intro A F
   iterate 2 (refine zd ?_;intro A F)
   refine jI (λ(x:Ts)=>[⟨q,27,(Pk.cells P9 s)⟩,⟨t,56,#[(.int .i64 v),(.pointer (some ⟨r,0,none⟩)),(.bool x.b)]⟩]) (RdP _ r (.int .u16 ((S8.num 2:Int))) (S8.rd 2)) F rfl (j5 rfl rfl (j4 (F.e rfl) j8) j9l) (jH4 hZ) (λS14 _ _ h=>Hp.re H (h.2.2.k) (ge1 hr0) ⟨kP1 (h.2.2.k) hZ.r.blk (ne9 rfl),⟨⟨rfl,λhb=>by rw[show S14=_ from h.2.1];exact (kP1 (h.2.2.k) hZ.r.blk (ne9 rfl)).2 hb⟩,trivial⟩⟩) ?_;clear F H A;intro S14 vv W A hR H F;obtain ⟨rfl,hS14,hZ9⟩:=hR
   try dsimp only at H
   replace hPp:=hPp.propK hZ9.k (uO1 hZ.r);replace hZ:=hZ.step hZ9 tq1;clear hZ9;refine j3 F rfl (jK rfl (F.e rfl)) ?_;intro A F;refine zd ?_;intro A F;let P15:Pk:={P9 with id:=S8.num 2}
   refine zs [] ((Pk.cells P15 s)) ?_;intro W H9 hk;replace hZ:=hZ.st (H.b.at_ (j:=0) rfl).1 (ne9 rfl) (ne9 rfl) (.inr (.inr (.inl rfl))) hk;replace hPp:=hPp.propK hk (jq (H.b.at_ (j:=0) rfl).1 (jn _ _));clear H hk;have H:=H9;clear H9;refine wpList_nil ?_;exact hK11 _ _ ⟨(S8.num 2),S14,((F.nil.cons (F.g 1 _ rfl)).cons (F.g 0 _ rfl)),H,(by rw[if_neg (by have h9:=hb13;simpa using h9)]),(by rw[if_neg (by have h9:=hb13;simpa using h9)];exact hS14),hZ,hPp⟩
  replace F:=((F.nil.cons (F.g 1 _ rfl)).cons (F.g 0 _ rfl))
  refine wp_skip ?_;exact hK11 _ _ ⟨(P9).id,S8,((F.nil.cons (F.g 1 _ rfl)).cons (F.g 0 _ rfl)),H,(by rw[if_pos (by have h9:=hb13;simpa using h9)]<;>rfl),(by rw[if_pos (by have h9:=hb13;simpa using h9)]),hZ,hPp⟩
 clear F H;obtain ⟨i10,S10,F,H,hi10,hS10,hZ,hPp⟩:=hM;refine sg λK16 hK16=>?_
 iterate 2 (refine zd ?_;intro A F)
 obtain ⟨htb,ht0⟩:=H.b.at_ (j:=1) rfl;refine jI (λ(x:Ts × Option Addr × Nat)=>[⟨q,27,(Pk.cells ({P9 with id:=i10}) s)⟩,⟨t,56,#[(.int .i64 v),(.pointer (some ⟨r,0,none⟩)),(.bool x.1.b)]⟩]) (λx=>ScP _ v t r (S10.sec v) (S10.rdS v) x.1 x.2.1 x.2.2) F rfl (j5 rfl rfl (j4 (F.e rfl) j8) j54) (zS w0 _ t r v S10 ⟨H.k,htb,ht0,by simp,trivial⟩ hr0 hZ.r hZ.n hT) (λx9 _ _ h=>Hp.re H (h.z.k) (ge2 hr0 ht0) ⟨kP2 (h.z.k) hZ.r.blk (ne9 rfl) htb (ne9 rfl),⟨⟨rfl,λ_=>h.tb⟩,trivial⟩⟩) ?_;clear F H A;intro x9 vv W A hR H F;obtain ⟨S17,a17,c17⟩:=x9;replace hR:ScP _ v t r (S10.sec v) (S10.rdS v) S17 a17 c17 vv W:=hR;obtain ⟨rfl,hS17,hZ9,-,hP17⟩:=hR
 try dsimp only at H
 replace hPp:=hPp.propK hZ9.k (uO2 hZ.r htb (nu3 (by simp) (by simp) (by simp)));replace hZ:=hZ.step hZ9 tq2;clear hZ9;clear htb ht0;refine j3 F rfl (jK rfl (F.e rfl)) ?_;intro A F;refine zd ?_;intro A F;let s18:Sl:={s with pa:=a17,pc:=c17}
 let P19:Pk:={P9 with id:=i10,props:=(S10.sec v)}
 refine zs [] ((Pk.cells P19 s18)) ?_;intro W H9 hk;replace hZ:=hZ.st (H.b.at_ (j:=0) rfl).1 (ne9 rfl) (ne9 rfl) (.inr (.inr (.inl rfl))) hk;replace hPp:=hPp.propK hk (jq (H.b.at_ (j:=0) rfl).1 (jn _ _));replace hP17:=hP17.propK hk (jq (H.b.at_ (j:=0) rfl).1 (jn _ _));clear H hk;have H:=H9;clear H9;refine nn (hK16 _ _) ?_;refine jC ?_
 iterate 2 (refine zd ?_;intro A F)
 refine j3 F rfl (jK rfl (F.e rfl)) ?_;intro A F
 iterate 2 (refine zd ?_;intro A F)
 refine jI (λ(x:Ts)=>[⟨q,27,(Pk.cells P19 s18)⟩,⟨t,56,#[(.int .i64 v),(.pointer (some ⟨r,0,none⟩)),(.bool x.b)]⟩]) (RdP _ r (.string S17.rest) S17.rdR) F rfl (j5 rfl rfl (j4 (F.e rfl) j8) jL4) (jLd hZ) (λS20 _ _ h=>Hp.re H (h.2.2.k) (ge1 hr0) ⟨kP1 (h.2.2.k) hZ.r.blk (ne9 rfl),⟨⟨rfl,λhb=>by rw[show S20=_ from h.2.1];exact (kP1 (h.2.2.k) hZ.r.blk (ne9 rfl)).2 hb⟩,trivial⟩⟩) ?_;clear F H A;intro S20 vv W A hR H F;obtain ⟨rfl,hS20,hZ9⟩:=hR
 try dsimp only at H
 replace hPp:=hPp.propK hZ9.k (uO1 hZ.r);replace hP17:=hP17.propK hZ9.k (uO1 hZ.r);replace hZ:=hZ.step hZ9 tq1;clear hZ9;refine j3 F rfl (jK rfl (F.e rfl)) ?_;intro A F;refine zd ?_;intro A F;let P21:Pk:={P19 with load:=S17.rest}
 refine zs [] ((Pk.cells P21 s18)) ?_;intro W H9 hk;replace hZ:=hZ.st (H.b.at_ (j:=0) rfl).1 (ne9 rfl) (ne9 rfl) (.inr (.inr (.inl rfl))) hk;replace hPp:=hPp.propK hk (jq (H.b.at_ (j:=0) rfl).1 (jn _ _));replace hP17:=hP17.propK hk (jq (H.b.at_ (j:=0) rfl).1 (jn _ _));clear H hk;have H:=H9;clear H9;refine wpList_nil ?_;refine (show bodyPost _ Tryz.f50 RR Exit.normal _ _ from zn0 ?_);exact (by have hK9:=(show j3t v n S=_ from rfl);subst hS20 hS17 hS10 hi10 hS8 hP3;exact ⟨_,(_,_,s18),rfl,⟨rfl,(congrArg Prod.snd hK9).symm,(congrArg Prod.fst hK9).symm,hZ,(H.b.at_ (j:=1) rfl).1,(H.b.at_ (j:=0) rfl).1,xf hE.w,hP17,hE.nf,hE.nc,hE.sc⟩⟩)
end Go.Proofs.YtnehnjklgglliaaGreatDoor
