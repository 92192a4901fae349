import Derived.Test.YtdeecgmihfakgaaGreatDoorYFW
import Derived.Test.YtdeecgmihfakgaaGreatDoorYF7
import Derived.Test.YtdeecgmihfakgaaGreatDoorYF1
import Derived.Test.YtdeecgmihfakgaaGreatDoorYFK
import Derived.Test.YtdeecgmihfakgaaGreatDoorYF8
import Derived.Test.YtdeecgmihfakgaaGreatDoorYFS
namespace Go.Proofs.YtdeecgmihfakgaaGreatDoor
open Go.RowKit
set_option linter.unusedVariables false
set_option linter.unusedSimpArgs false
set_option maxRecDepth 100000
structure Ts where
 l:List UInt8
 e:Int
 b:Bool
namespace Ts
def num (n:Int) (s:Ts):Nat:=Go.Proofs.YtdeecgmihfakgaaGreatDoor.num (taken n s.l s.e)
def rd (n:Int) (s:Ts):Ts:=⟨leftL n s.l s.e,leftE n s.l s.e,s.b⟩
def bin (s:Ts):ByteArray:=⟨(binTaken s.l s.e).toArray⟩
def rdB (s:Ts):Ts:=⟨binL s.l s.e,binE s.l s.e,s.b⟩
def need (s:Ts) (x:Bool):Ts:=⟨s.l,s.e,s.b||!x⟩
def rdT (s:Ts):Ts:=s.rdB.need (okText s.bin)
def sec (v:Int) (s:Ts):List Pr:=if v=4 then [] else (takeR s.l s.e).1
def rdS (v:Int) (s:Ts):Ts:=if v=4 then s else Ts.need ⟨takeLeft s.l s.e,takeErr s.l s.e,s.b⟩ (takeR s.l s.e).2
def rest (s:Ts):ByteArray:=⟨s.l.toArray⟩
def rdR (s:Ts):Ts:=⟨[],s.e,s.b⟩
def ok (s:Ts):Bool:=!s.b&&decide (s.e=0)
end Ts
def shortK (v:Int) (p:Pk) (s:Ts):Pk × Ts :=
 if v=4∨s.l.length=0 then (p,s) else if (s.rd 1).l.length=0 then ({ p with code:=s.num 1 },s.rd 1) else ({ p with code:=s.num 1,props:=(s.rd 1).sec v },(s.rd 1).rdS v)
def filtK (k:Int):Nat→Ts→List Fi × Ts
 | 0,s=>([],s)
 | n+1,s=>if s.ok=true∧0 < s.l.length then
   (⟨s.bin,if k=8 then s.rdT.num 1 else 0⟩ :: (filtK k n (if k=8 then s.rdT.rd 1 else s.rdT)).1,(filtK k n (if k=8 then s.rdT.rd 1 else s.rdT)).2) else ([],s)
theorem filtK_stop {k:Int} {s:Ts} (h:¬ (s.ok=true∧0 < s.l.length)):∀ n,filtK k n s=([],s)
 | 0=>rfl
 | n+1=>if_neg h
theorem filtK_go {k:Int} {s:Ts} {n:Nat} (h:s.ok=true∧0 < s.l.length):filtK k (n+1) s=(⟨s.bin,if k=8 then s.rdT.num 1 else 0⟩ :: (filtK k n (if k=8 then s.rdT.rd 1 else s.rdT)).1,(filtK k n (if k=8 then s.rdT.rd 1 else s.rdT)).2):=if_pos h
theorem leftL_le (n:Int) (l:List UInt8) (e:Int):(leftL n l e).length≤l.length:=by
 unfold leftL
 split
 ·split
  ·rw[List.length_drop];omega
  ·simp
 ·exact Nat.le_refl _
theorem rdT_lt {s:Ts} (h:s.ok=true∧0 < s.l.length):s.rdT.l.length < s.l.length:=by
 obtain ⟨h1,h0⟩:=h
 have he:s.e=0:=by
  unfold Ts.ok at h1;simp only[Bool.and_eq_true,decide_eq_true_eq]at h1;exact h1.2
 have h2:(leftL 2 s.l s.e).length < s.l.length:=by
  unfold leftL;rw[if_pos he]
  split
  ·rw[List.length_drop];omega
  ·simpa using h0
 exact Nat.lt_of_le_of_lt (leftL_le _ _ _) h2
theorem filtK_lt {k:Int} {s:Ts} (h:s.ok=true∧0 < s.l.length):(if k=8 then s.rdT.rd 1 else s.rdT).l.length < s.l.length:=by
 have h1:=rdT_lt h
 split
 ·exact Nat.lt_of_le_of_lt (leftL_le _ _ _) h1
 ·exact h1
theorem filtK_round {k:Int} {N n:Nat} {S s s':Ts} {acc:List Fi} {o:Nat} (hf:filtK k N S=(acc++(filtK k n s).1,(filtK k n s).2)) (hn:s.l.length≤n) (h:s.ok=true∧0 < s.l.length) (ho:o=if k=8 then s.rdT.num 1 else 0) (hs:s'=if k=8 then s.rdT.rd 1 else s.rdT) :
  filtK k N S=((acc++[⟨s.bin,o⟩])++(filtK k (n - 1) s').1,(filtK k (n - 1) s').2)∧s'.l.length≤n - 1:=by
 have h2:=filtK_lt (k:=k) h;obtain ⟨m,rfl⟩:∃ m,n=m+1:=⟨n - 1,by omega⟩
 subst ho hs;rw[hf,filtK_go h,Nat.add_sub_cancel];refine ⟨by simp,by omega⟩
theorem filtK_end {k:Int} {N n:Nat} {S s:Ts} {acc:List Fi} (hf:filtK k N S=(acc++(filtK k n s).1,(filtK k n s).2)) (h:¬ (s.ok=true∧0 < s.l.length)):filtK k N S=(acc,s):=by
 rw[hf,filtK_stop h];simp
def willK (v:Int) (f:Nat) (p:Pk) (s:Ts):Pk × Ts :=
 if (!decide (f &&& 4=0))=true then
  ({ p with hasWill:=!decide (f &&& 4=0),willQoS:=f / 8 &&& 3,willRetain:=!decide (f &&& 32=0),willProps:=s.sec v,willTopic:=(s.rdS v).bin,willLoad:=(s.rdS v).rdT.bin },(s.rdS v).rdT.rdB)
 else ({ p with hasWill:=!decide (f &&& 4=0) },s.need (decide (f &&& 56=0)))
def userK (f:Nat) (p:Pk) (s:Ts):Pk × Ts :=
 if (!decide (f &&& 128=0))=true then ({ p with hasUser:=!decide (f &&& 128=0),user:=s.bin },s.rdT) else ({ p with hasUser:=!decide (f &&& 128=0) },s)
def passK (f:Nat) (p:Pk) (s:Ts):Pk × Ts :=
 if (!decide (f &&& 64=0))=true then ({ p with hasPass:=!decide (f &&& 64=0),pass:=s.bin },s.rdB) else ({ p with hasPass:=!decide (f &&& 64=0) },s)
def conF (v:Int) (s:Ts):Ts:=((s.rdB.need (decide (s.bin=mqtt))).rd 1).need (decide (((s.rdB.need (decide (s.bin=mqtt))).num 1:Int)=v))
def connK (v:Int) (s:Ts):Pk × Ts :=
 let s2:=conF v s;let f:=s2.num 1;let s3:=(s2.rd 1).need (decide (f &&& 1=0));let s5:=(s3.rd 2).rdS v;let w:=willK v f { zk 1 with clean:=!decide (f &&& 2=0),keep:=s3.num 2,props:=(s3.rd 2).sec v,client:=s5.bin } s5.rdT;let u:=userK f w.1 w.2
 passK f u.1 u.2
def connackK (v:Int) (s:Ts):Pk × Ts :=
 let s1:=(s.rd 1).need (decide (s.num 1≤1))
 ({ zk 2 with present:=decide (s.num 1=1),code:=s1.num 1,props:=(s1.rd 1).sec v },(s1.rd 1).rdS v)
def publK (v:Int) (f:Nat) (s:Ts):Pk × Ts :=
 let s1:=s.rdT;let s2:=if (f / 2 &&& 3)=0 then s1 else s1.rd 2
 ({ zk 3 with dup:=!decide (f &&& 8=0),qos:=f / 2 &&& 3,retain:=!decide (f &&& 1=0),topic:=s.bin,id:=if (f / 2 &&& 3)=0 then 0 else s1.num 2,props:=s2.sec v,load:=(s2.rdS v).rest },(s2.rdS v).rdR)
def fieldsK (v k:Int) (f:Nat) (s:Ts):Pk × Ts :=
 if k=1 then connK v s
 else if k=2 then connackK v s
 else if k=3 then publK v f s
 else if k=4∨k=5∨k=6∨k=7 then shortK v { zk k with id:=s.num 2 } (s.rd 2)
 else if k=8∨k=10 then ({ zk k with id:=s.num 2,props:=(s.rd 2).sec v,filters:=(filtK k ((s.rd 2).rdS v).l.length ((s.rd 2).rdS v)).1 },(filtK k ((s.rd 2).rdS v).l.length ((s.rd 2).rdS v)).2)
 else if k=9∨k=11 then ({ zk k with id:=s.num 2,props:=(s.rd 2).sec v,codes:=((s.rd 2).rdS v).l },((s.rd 2).rdS v).rdR)
 else if k=14∨k=15 then shortK v (zk k) s
 else (zk k,s)
structure Hd where
 kind:Int
 flags:Nat
 head:Int
 rest:Nat
def headS (b:List UInt8):Nat × List UInt8 × Int:=rv 4 0 0 (leftL 1 b 0) (leftE 1 b 0)
def headE (b:List UInt8):Int:=(headS (b.take 5)).2.2
def headB (b:List UInt8):Hd :=
 if headE b=0 then ⟨((num (taken 1 (b.take 5) 0) / 16:Nat):Int),num (taken 1 (b.take 5) 0) % 16,((b.take 5).length:Int) - ((headS (b.take 5)).2.1.length:Int),(headS (b.take 5)).1⟩ else ⟨0,0,0,0⟩
def headOk (v:Int) (h:Hd):Bool :=
 if !(decide (v=4)||decide (v=5))||(decide (h.kind=0)||(decide (v=4)&&decide (h.kind=15))) then false
 else if h.kind=3 then true else if h.kind=6∨h.kind=8∨h.kind=10 then decide (h.flags=2) else decide (h.flags=0)
def formS (v:Int) (b:List UInt8):Pk × Ts:=fieldsK v (headB b).kind (headB b).flags ⟨b.drop (headB b).head.toNat,0,false⟩
def formOk (v:Int) (b:List UInt8):Bool :=
 decide (headE b=0)&&(decide ((b.length:Int)=(headB b).head+(headB b).rest)&&(headOk v (headB b)&&((formS v b).2.ok&&decide ((formS v b).2.l.length=0))))
def formP (v:Int) (b:List UInt8):Pk:=if formOk v b=true then (formS v b).1 else zk 0
def decE (v:Int) (b:List UInt8):Int:=if v=4∨v=5 then (if formOk v b=true then (if rightP v (formP v b)=true then 0 else 4) else 3) else 1
def decP (v:Int) (b:List UInt8):Pk:=if decE v b=0 then formP v b else zk 0
open Go.RowKit
set_option linter.unusedVariables false
set_option linter.unusedSimpArgs false
set_option maxRecDepth 100000
theorem ne9 {a b:Nat} (h:Nat.beq a b=false):a≠b:=fun e=>by rw[e,Nat.beq_refl]at h;cases h
def Tt (t r:Nat):Nat→Prop:=fun k=>k=t∨k=r
def Tq (t q r:Nat):Nat→Prop:=fun k=>k=t∨k=q∨k=r
structure Rk (w:World) (T:Nat→Prop) (r:Nat) (S:Ts) (W:World):Prop where
 n:S.l.length≤100000
 r:Rdr W r S.l S.e
 k:Kept T w W
structure Rd (B:ByteArray) (w:World) (T:Nat→Prop) (r:Nat) (S:Ts) (W:World):Prop where
 n:S.l.length≤100000
 r:RefR W r B S.l S.e
 k:Kept T w W
section
variable {w w0 W W':World} {T T':Nat→Prop} {r t q b:Nat} {S S':Ts} {M M':List Bk} {ty:TypeId} {c ct cq:Array Value} {B:ByteArray} {l:List UInt8} {e:Int}
theorem takeLeft_le (l:List UInt8) (e:Int):(takeLeft l e).length≤l.length:=Nat.le_trans (leftL_le _ _ _) (rv_suf 4 0 0 l e).length_le
theorem rd_le (n:Int) (S:Ts):(S.rd n).l.length≤S.l.length:=leftL_le _ _ _
theorem rdB_le (S:Ts):S.rdB.l.length≤S.l.length:=Nat.le_trans (leftL_le _ _ _) (leftL_le _ _ _)
theorem rdS_le (v:Int) (S:Ts):(S.rdS v).l.length≤S.l.length:=by
 unfold Ts.rdS
 split
 ·exact Nat.le_refl _
 ·exact takeLeft_le _ _
theorem Rdr.blk (h:Rdr W r l e):∃ c,Blk W r 175 c:=by obtain ⟨a,c,hb,_⟩:=h;exact ⟨_,hb⟩
theorem RefR.blk (h:RefR W r B l e):∃ c,Blk W r 135 c:=by obtain ⟨a,hb,_⟩:=h;exact ⟨_,hb⟩
theorem Rk.no (h:Rk w T r S W) (hk:Kept No W W'):Rk w T r S W':=⟨h.n,h.r.keptNo hk,h.k.then hk (fun _ _ f=>f.elim)⟩
theorem Rd.no (h:Rd B w T r S W) (hk:Kept No W W'):Rd B w T r S W':=⟨h.n,h.r.kept hk (fun f=>f),h.k.then hk (fun _ _ f=>f.elim)⟩
theorem Rk.st (h:Rk w T r S W) (hb:Blk W b ty c) (h1:ty≠5) (h2:ty≠175) (hT:w.heap.size≤b∨T b) (hk:Kept (One b) W W'):Rk w T r S W':=by
 obtain ⟨c9,hr⟩:=h.r.blk;refine ⟨h.n,h.r.keptTyp hk (fun e=>?_) (fun k e cs fz hx=>?_),h.k.then hk (fun i hi e=>?_)⟩
 ·have e:r=b:=e
  subst e;exact h2 (blk_one hb hr)
 ·have e:k=b:=e
  subst e;unfold Blk at hb;rw[hb]at hx;injection hx with hx;injection hx with _ h _;exact h1 h
 ·have e:i=b:=e
  subst e;exact hT.resolve_left (by omega)
theorem Rd.st (h:Rd B w T r S W) (hb:Blk W b ty c) (h1:ty≠5) (h2:ty≠135) (hT:w.heap.size≤b∨T b) (hk:Kept (One b) W W'):Rd B w T r S W':=by
 obtain ⟨c9,hr⟩:=h.r.blk;refine ⟨h.n,h.r.kept hk (fun e=>?_),h.k.then hk (fun i hi e=>?_)⟩
 ·have e:r=b:=e
  subst e;exact h2 (blk_one hb hr)
 ·have e:i=b:=e
  subst e;exact hT.resolve_left (by omega)
theorem Rk.step (h:Rk w T r S W) (h2:Rk W T' r S' W') (hT:∀ i,T' i→T i):Rk w T r S' W':=⟨h2.n,h2.r,h.k.then h2.k (fun i _ e=>hT i e)⟩
theorem Rd.step (h:Rd B w T r S W) (h2:Rd B W T' r S' W') (hT:∀ i,T' i→T i):Rd B w T r S' W':=⟨h2.n,h2.r,h.k.then h2.k (fun i _ e=>hT i e)⟩
theorem Rk.gr {e9:TypeId} {k n B9:Nat} {v:Value} {xs:List Value} (h:Rk w T r S W) (hO:W.ownsRow B9 e9 k v n xs) (hB:w.heap.size≤B9) (h1:e9≠5) (h2:e9≠175) (hk:Kept (Sv v) W W'):Rk w T r S W':=by
 obtain ⟨c9,hr⟩:=h.r.blk;refine ⟨h.n,h.r.keptTyp hk (fun e=>?_) (fun b e cs fz hx=>?_),h.k.then hk (fun i hi e=>?_)⟩
 ·obtain ⟨cur,hc⟩:=own_typed hO e
  exact h2 (blk_one hc hr)
 ·obtain ⟨cur,hc⟩:=own_typed hO e
  rw[hc]at hx;injection hx with hx;injection hx with _ hq _;exact h1 hq
 ·have:=(hO.lt i e).1
  omega
theorem Rd.gr {e9:TypeId} {k n B9:Nat} {v:Value} {xs:List Value} (h:Rd B w T r S W) (hO:W.ownsRow B9 e9 k v n xs) (hB:w.heap.size≤B9) (h2:e9≠135) (hk:Kept (Sv v) W W'):Rd B w T r S W':=by
 obtain ⟨c9,hr⟩:=h.r.blk;refine ⟨h.n,h.r.kept hk (fun e=>?_),h.k.then hk (fun i hi e=>?_)⟩
 ·obtain ⟨cur,hc⟩:=own_typed hO e
  exact h2 (blk_one hc hr)
 ·have:=(hO.lt i e).1
  omega
theorem own_T {e9:TypeId} {k n B9:Nat} {v:Value} {xs:List Value} (hO:W.ownsRow B9 e9 k v n xs) (hk:Kept T W W') (hT:∀ i,T i→∃ ty c,Blk W i ty c∧ty≠e9):W'.ownsRow B9 e9 k v n xs :=
 own_sep hO hk (fun g cur hi hc=>by
  obtain ⟨ty,c,hB,hne⟩:=hT g hi;exact hne (blk_one hB (show Blk W g e9 cur from hc)))
theorem oT1 {rd e9:TypeId} (hr:∃ c,Blk W r rd c) (h:rd≠e9):∀ i,One r i→∃ ty c,Blk W i ty c∧ty≠e9:=fun i hi=>by
 obtain ⟨c9,h9⟩:=hr;rw[show i=r from hi];exact ⟨_,_,h9,h⟩
theorem oT2 {rd tk e9:TypeId} (hr:∃ c,Blk W r rd c) (h:rd≠e9) (ht:Blk W t tk ct) (h2:tk≠e9):∀ i,Tt t r i→∃ ty c,Blk W i ty c∧ty≠e9:=fun i hi=>by
 rcases hi with hi|hi
 ·rw[hi];exact ⟨_,_,ht,h2⟩
 ·exact oT1 hr h i hi
theorem Rk.stepq (h:Rk w (Tt t r) r S W) (h2:Rk W (Tq t q r) r S' W') (hq:w.heap.size≤q):Rk w (Tt t r) r S' W':=⟨h2.n,h2.r,h.k.then h2.k (fun i hi e=>by
 rcases e with e|e|e
 ·exact .inl e
 ·omega
 ·exact .inr e)⟩
theorem Rk.start (h:Rdr w r S.l S.e) (hn:S.l.length≤100000):Rk w T r S w:=⟨hn,h,Kept.refl _ _⟩
theorem Rd.start (h:RefR w r B S.l S.e) (hn:S.l.length≤100000):Rd B w T r S w:=⟨hn,h,Kept.refl _ _⟩
theorem tt1 (i:Nat) (h:One r i):Tt t r i:=.inr h
theorem tq1 (i:Nat) (h:One r i):Tq t q r i:=.inr (.inr h)
theorem tq2 (i:Nat) (h:Tt t r i):Tq t q r i:=h.elim .inl (fun e=>.inr (.inr e))
theorem tq3 (i:Nat) (h:Tq t q r i):Tq t q r i:=h
theorem tt2 (i:Nat) (h:Tt t r i):Tt t r i:=h
def Re (W W':World):List Bk→List Bk→Prop
 | [],[]=>True
 | x :: l,y :: l'=>(y.b=x.b∧(Blk W x.b x.t x.c→Blk W' y.b y.t y.c))∧Re W W' l l'
 | _,_=>False
theorem Hps.re:∀ {M M':List Bk},Hps w0 W M→Re W W' M M'→Hps w0 W' M'∧∀ y∈M',∃ x∈M,x.b=y.b
 | [],[],_,_=>⟨trivial,by simp⟩
 | x :: l,y :: l',h,hr=>by
  obtain ⟨h1,h2⟩:=Hps.re h.2.2.2 hr.2;refine ⟨⟨hr.1.2 h.1,hr.1.1▸h.2.1,fun z hz=>?_,h1⟩,fun z hz=>?_⟩
  ·obtain ⟨x',hx',e⟩:=h2 z hz
   rw[← e,hr.1.1];exact h.2.2.1 x' hx'
  ·rcases List.mem_cons.1 hz with rfl|hz
   ·exact ⟨x,List.mem_cons_self ..,hr.1.1.symm⟩
   ·obtain ⟨x',hx',e⟩:=h2 z hz
    exact ⟨x',List.mem_cons_of_mem _ hx',e⟩
theorem Hp.re (H:Hp w0 W M) (hk:Kept T W W') (hT:∀ i,T i→w0.heap.size≤i) (h:Re W W' M M'):Hp w0 W' M' :=
 ⟨H.k.then hk (fun i hi e=>by have:=hT i e;omega),(H.b.re h).1⟩
theorem nT1 (hr:∃ c,Blk W r 175 c) (h2:ty≠175) (hb:Blk W b ty c):¬ One r b:=fun e=>by
 obtain ⟨c9,hr⟩:=hr;have e:b=r:=e;subst e;exact h2 (blk_one hb hr)
theorem nT2 (hr:∃ c,Blk W r 175 c) (h2:ty≠175) {tk:TypeId} (ht:Blk W t tk ct) (h3:ty≠tk) (hb:Blk W b ty c):¬ Tt t r b:=fun e=>by
 rcases e with e|e
 ·subst e;exact h3 (blk_one hb ht)
 ·exact nT1 hr h2 hb e
theorem nT3 (hr:∃ c,Blk W r 175 c) (h2:ty≠175) {tk:TypeId} (ht:Blk W t tk ct) (h3:ty≠tk) {tp:TypeId} (hq:Blk W q tp cq) (h4:ty≠tp) (hb:Blk W b ty c):¬ Tq t q r b:=fun e=>by
 rcases e with e|e|e
 ·subst e;exact h3 (blk_one hb ht)
 ·subst e;exact h4 (blk_one hb hq)
 ·exact nT1 hr h2 hb e
theorem nT4 (hr:∃ c,Blk W r 175 c) (h2:ty≠175) {tk:TypeId} (ht:Blk W t tk ct) (h3:ty≠tk) (h4:b≠q) (hb:Blk W b ty c):¬ Tq t q r b:=fun e=>by
 rcases e with e|e|e
 ·subst e;exact h3 (blk_one hb ht)
 ·exact h4 e
 ·exact nT1 hr h2 hb e
theorem mT1 (hr:∃ c,Blk W r 135 c) (h2:ty≠135) (hb:Blk W b ty c):¬ One r b:=fun e=>by
 obtain ⟨c9,hr⟩:=hr;have e:b=r:=e;subst e;exact h2 (blk_one hb hr)
theorem mT2 (hr:∃ c,Blk W r 135 c) (h2:ty≠135) {tk:TypeId} (ht:Blk W t tk ct) (h3:ty≠tk) (hb:Blk W b ty c):¬ Tt t r b:=fun e=>by
 rcases e with e|e
 ·subst e;exact h3 (blk_one hb ht)
 ·exact mT1 hr h2 hb e
theorem mT3 (hr:∃ c,Blk W r 135 c) (h2:ty≠135) {tk:TypeId} (ht:Blk W t tk ct) (h3:ty≠tk) {tp:TypeId} (hq:Blk W q tp cq) (h4:ty≠tp) (hb:Blk W b ty c):¬ Tq t q r b:=fun e=>by
 rcases e with e|e|e
 ·subst e;exact h3 (blk_one hb ht)
 ·subst e;exact h4 (blk_one hb hq)
 ·exact mT1 hr h2 hb e
theorem mT4 (hr:∃ c,Blk W r 135 c) (h2:ty≠135) {tk:TypeId} (ht:Blk W t tk ct) (h3:ty≠tk) (h4:b≠q) (hb:Blk W b ty c):¬ Tq t q r b:=fun e=>by
 rcases e with e|e|e
 ·subst e;exact h3 (blk_one hb ht)
 ·exact h4 e
 ·exact mT1 hr h2 hb e
theorem kP1 (hk:Kept (One r) W W') (hr:∃ c,Blk W r 175 c) (h2:ty≠175):b=b∧(Blk W b ty c→Blk W' b ty c):=⟨rfl,fun hb=>hb.kept hk (nT1 hr h2 hb)⟩
theorem kP2 (hk:Kept (Tt t r) W W') (hr:∃ c,Blk W r 175 c) (h2:ty≠175) {tk:TypeId} (ht:Blk W t tk ct) (h3:ty≠tk):b=b∧(Blk W b ty c→Blk W' b ty c):=⟨rfl,fun hb=>hb.kept hk (nT2 hr h2 ht h3 hb)⟩
theorem kP3 (hk:Kept (Tq t q r) W W') (hr:∃ c,Blk W r 175 c) (h2:ty≠175) {tk:TypeId} (ht:Blk W t tk ct) (h3:ty≠tk) {tp:TypeId} (hq:Blk W q tp cq) (h4:ty≠tp):b=b∧(Blk W b ty c→Blk W' b ty c):=⟨rfl,fun hb=>hb.kept hk (nT3 hr h2 ht h3 hq h4 hb)⟩
theorem kP4 (hk:Kept (Tq t q r) W W') (hr:∃ c,Blk W r 175 c) (h2:ty≠175) {tk:TypeId} (ht:Blk W t tk ct) (h3:ty≠tk) (h4:b≠q):b=b∧(Blk W b ty c→Blk W' b ty c):=⟨rfl,fun hb=>hb.kept hk (nT4 hr h2 ht h3 h4 hb)⟩
theorem kD1 (hk:Kept (One r) W W') (hr:∃ c,Blk W r 135 c) (h2:ty≠135):b=b∧(Blk W b ty c→Blk W' b ty c):=⟨rfl,fun hb=>hb.kept hk (mT1 hr h2 hb)⟩
theorem kD2 (hk:Kept (Tt t r) W W') (hr:∃ c,Blk W r 135 c) (h2:ty≠135) {tk:TypeId} (ht:Blk W t tk ct) (h3:ty≠tk):b=b∧(Blk W b ty c→Blk W' b ty c):=⟨rfl,fun hb=>hb.kept hk (mT2 hr h2 ht h3 hb)⟩
theorem kD3 (hk:Kept (Tq t q r) W W') (hr:∃ c,Blk W r 135 c) (h2:ty≠135) {tk:TypeId} (ht:Blk W t tk ct) (h3:ty≠tk) {tp:TypeId} (hq:Blk W q tp cq) (h4:ty≠tp):b=b∧(Blk W b ty c→Blk W' b ty c):=⟨rfl,fun hb=>hb.kept hk (mT3 hr h2 ht h3 hq h4 hb)⟩
theorem kD4 (hk:Kept (Tq t q r) W W') (hr:∃ c,Blk W r 135 c) (h2:ty≠135) {tk:TypeId} (ht:Blk W t tk ct) (h3:ty≠tk) (h4:b≠q):b=b∧(Blk W b ty c→Blk W' b ty c):=⟨rfl,fun hb=>hb.kept hk (mT4 hr h2 ht h3 h4 hb)⟩
theorem ge1 {n:Nat} (hr:n≤r):∀ i,One r i→n≤i:=fun i (e:i=r)=>by omega
theorem ge2 {n:Nat} (hr:n≤r) (ht:n≤t):∀ i,Tt t r i→n≤i:=fun i e=>by rcases e with e|e<;>omega
theorem ge3 {n:Nat} (hr:n≤r) (ht:n≤t) (hq:n≤q):∀ i,Tq t q r i→n≤i:=fun i e=>by rcases e with e|e|e<;>omega
def NoU (c:Array Value):Prop:=∀ i n:Nat,c[i]?≠some (.int .u32 n)
theorem pc_second {p:Pr} {L:List Pr}:(PC (p :: L))[1]?=some (.int .u32 p.n):=rfl
theorem Row.propK {a:Option Addr} {L:List Pr} (h:Row W a (PC L)) (hk:Kept T W W') (hT:∀ i,T i→∃ ty c,Blk W i ty c∧NoU c):Row W' a (PC L):=by
 cases L with
 | nil=>exact .inl rfl
 | cons p L =>
  refine h.kept hk fun b off ha hne hb=>?_
  obtain ⟨ty,c,hB,hn⟩:=hT b hb;rcases h with h|⟨b2,off2,ha2,hlt,hc⟩
  ·cases h
  ·rw[ha]at ha2
   injection ha2 with ha2;injection ha2 with e1 e2 _;subst e1 e2
   have:=hc 1 _ pc_second
   rw[hB.cell]at this;exact hn _ _ this
theorem nuPk (p:Pk) (s:Sl):NoU (Pk.cells p s):=by
 intro i n;unfold Pk.cells;rcases i with _|_|_|_|_|_|_|_|_|_|_|_|_|_|_|_|_|_|_|_|_|_|_|_|_|i<;>simp
theorem nu3 {x y z:Value} (h1:∀ n:Nat,x≠.int .u32 n) (h2:∀ n:Nat,y≠.int .u32 n) (h3:∀ n:Nat,z≠.int .u32 n):NoU #[x,y,z]:=by
 intro i n;rcases i with _|_|_|i
 ·simpa using h1 n
 ·simpa using h2 n
 ·simpa using h3 n
 ·simp
theorem nu2 {x y:Value} (h1:∀ n:Nat,x≠.int .u32 n) (h2:∀ n:Nat,y≠.int .u32 n):NoU #[x,y]:=by
 intro i n;rcases i with _|_|i
 ·simpa using h1 n
 ·simpa using h2 n
 ·simp
theorem uO1 (h:Rdr W r l e):∀ i,One r i→∃ ty c,Blk W i ty c∧NoU c:=by
 intro i hi;obtain rfl:i=r:=hi;obtain ⟨a,c,hb,_⟩:=h;exact ⟨_,_,hb,nu2 (by simp) (by simp)⟩
theorem uO2 (h:Rdr W r l e) (ht:Blk W t ty ct) (hn:NoU ct):∀ i,Tt t r i→∃ ty c,Blk W i ty c∧NoU c:=by
 intro i hi;rcases hi with rfl|hi
 ·exact ⟨_,_,ht,hn⟩
 ·exact uO1 h i hi
theorem uO3 {tp:TypeId} (h:Rdr W r l e) (ht:Blk W t ty ct) (hn:NoU ct) (hq:Blk W q tp cq) (hn2:NoU cq):∀ i,Tq t q r i→∃ ty c,Blk W i ty c∧NoU c:=by
 intro i hi;rcases hi with rfl|rfl|hi
 ·exact ⟨_,_,ht,hn⟩
 ·exact ⟨_,_,hq,hn2⟩
 ·exact uO1 h i hi
theorem vO1 (h:RefR W r B l e):∀ i,One r i→∃ ty c,Blk W i ty c∧NoU c:=by
 intro i hi;obtain rfl:i=r:=hi;obtain ⟨a,hb,_⟩:=h;exact ⟨_,_,hb,nu3 (by simp) (by simp) (by simp)⟩
theorem vO2 (h:RefR W r B l e) (ht:Blk W t ty ct) (hn:NoU ct):∀ i,Tt t r i→∃ ty c,Blk W i ty c∧NoU c:=by
 intro i hi;rcases hi with rfl|hi
 ·exact ⟨_,_,ht,hn⟩
 ·exact vO1 h i hi
theorem vO3 {tp:TypeId} (h:RefR W r B l e) (ht:Blk W t ty ct) (hn:NoU ct) (hq:Blk W q tp cq) (hn2:NoU cq):∀ i,Tq t q r i→∃ ty c,Blk W i ty c∧NoU c:=by
 intro i hi;rcases hi with rfl|rfl|hi
 ·exact ⟨_,_,ht,hn⟩
 ·exact ⟨_,_,hq,hn2⟩
 ·exact vO1 h i hi
theorem uOne (hB:Blk W b ty c) (hn:NoU c):∀ i,One b i→∃ ty c,Blk W i ty c∧NoU c:=by
 intro i hi;obtain rfl:i=b:=hi;exact ⟨_,_,hB,hn⟩
end
section
variable {P:Program} {ops:Array Oper} {Q:Exit→Act→World→Prop} {a:Act} {w w0:World} {rest:List Oper} {N n:Nat} {L:List (Nat × Value)} {v:Value} {ty:TypeId} {ps:String} {af:Array Edge} {op:Op} {α:Type}
theorem hz_callX (M':α→List Bk) (R:α→Value→World→Prop) {f:Nat} {args:Array Value} (F:Fr a N L) (hn:Nat.blt n N=true) (h:(execOp a.eval ⟨some n,op,ty,ps,af,none⟩).run P w=.ok (.enter f args) w)
  (hc:Calls P f args w fun e w'=>∃ v x,e=.returned v∧R x v w') (hH:∀ x v w',R x v w'→Hp w0 w' (M' x)) (k:∀ (x:α) (v:Value) (w':World) (a':Act),R x v w'→Hp w0 w' (M' x)→Fr a' N ((n,v) :: L)→wpList P ops Q rest a' w'):wpList P ops Q (⟨some n,op,ty,ps,af,none⟩ :: rest) a w:=by
 unfold wpList;rw[if_pos (gx_w rfl)];left;unfold Oper.wp;rw[h];refine hc.mono ?_;rintro e w' ⟨v,x,rfl,hR⟩;exact k x v w' _ hR (hH x v w' hR) (F.put hn v)
variable {md:Region.Mode} {S:World→Prop} {fuel:Nat} {listed:Array Bool} {i:Nat}
theorem hb_callX (M':α→List Bk) (R:α→Value→World→Prop) {f:Nat} {args:Array Value} (F:Fr a N L) (hn:Nat.blt n N=true) (hi:ops[i]?=some ⟨some n,op,ty,ps,af,none⟩)
  (h:(execOp a.eval ⟨some n,op,ty,ps,af,none⟩).run P w=.ok (.enter f args) w) (hc:Calls P f args w fun e w'=>∃ v x,e=.returned v∧R x v w') (hH:∀ x v w',R x v w'→Hp w0 w' (M' x)) (hS:∀ x w',Hp w0 w' (M' x)→S w')
  (k:∀ (x:α) (v:Value) (w':World) (a':Act),R x v w'→Hp w0 w' (M' x)→Fr a' N ((n,v) :: L)→wpAnyH P md ops Q S fuel (listed.setIfInBounds i true) a' w') :
  wpOp P ops Q i (fun a' w'=>S w'∧wpAnyH P md ops Q S fuel (listed.setIfInBounds i true) a' w') a w:=by
 unfold wpOp;simp only[hi];rw[if_pos (gx_w rfl)];left;unfold Oper.wp;rw[h];refine hc.mono ?_;rintro e w' ⟨v,x,rfl,hR⟩;exact ⟨hS x w' (hH x v w' hR),k x v w' _ hR (hH x v w' hR) (F.put hn v)⟩
theorem gx_resc2 {fn:Func} {t g u:Nat} {T:TypeId} {v y:Value} (h:fn.results=#[.cell t T,.tmp u]) (f:a.tmps[t]?=some (.pointer (some ⟨g,0,none⟩))) (f2:a.tmps[u]?=some y) (hl:(Instr.loadAt T (.pointer (some ⟨g,0,none⟩))).run P w=.ok v w):(results fn a.tmps).run P w=.ok (.tuple #[v,y]) w:=by
 have hl2:(loadVar T ⟨g,0,none⟩).run P w=.ok v w:=hl;unfold results;rw[h];have ha2:asAddr (a.tmps.getD t undef)=(pure ⟨g,0,none⟩:Sem Addr):=by rw[Array.getD_eq_getD_getElem?,f];rfl
 simp only[List.mapM_toArray,List.mapM_cons,List.mapM_nil,Array.mapM_eq_mapM_toList];rw[ha2];simp[hl2,Result.andThen,Array.getD_eq_getD_getElem?,f2]
end
def RdP (W:World) (r:Nat) (x:Value) (S' S1:Ts) (u:Value) (W':World):Prop:=u=x∧S1=S'∧Rk W (One r) r S1 W'
def RdD (B:ByteArray) (W:World) (r:Nat) (x:Value) (S' S1:Ts) (u:Value) (W':World):Prop:=u=x∧S1=S'∧Rd B W (One r) r S1 W'
section
variable {w W:World} {T:Nat→Prop} {r:Nat} {S:Ts} {B:ByteArray}
theorem kTwo (h:Rk w T r S W):Calls Tryz.prog 124 #[.pointer (some ⟨r,0,none⟩)] W fun e w'=>∃ u S1,e=.returned u∧RdP W r (.int .u16 (S.num 2:Int)) (S.rd 2) S1 u w' :=
 (rtwo_any W r S.l S.e h.r).mono fun e w' q=>⟨_,_,q.1,rfl,rfl,Nat.le_trans (rd_le _ _) h.n,q.2.rdr,q.2.kept⟩
theorem kByte (h:Rk w T r S W):Calls Tryz.prog 87 #[.pointer (some ⟨r,0,none⟩)] W fun e w'=>∃ u S1,e=.returned u∧RdP W r (.int .u8 (S.num 1:Int)) (S.rd 1) S1 u w' :=
 (rbyte_any W r S.l S.e h.r).mono fun e w' q=>⟨_,_,q.1,rfl,rfl,Nat.le_trans (rd_le _ _) h.n,q.2.rdr,q.2.kept⟩
theorem kBin (h:Rk w T r S W):Calls Tryz.prog 165 #[.pointer (some ⟨r,0,none⟩)] W fun e w'=>∃ u S1,e=.returned u∧RdP W r (.string S.bin) S.rdB S1 u w' :=
 (rbin_any W r S.l S.e h.r).mono fun e w' q=>⟨_,_,q.1,rfl,rfl,Nat.le_trans (rdB_le _) h.n,q.2.rdr,q.2.kept⟩
theorem kRest (h:Rk w T r S W):Calls Tryz.prog 128 #[.pointer (some ⟨r,0,none⟩)] W fun e w'=>∃ u S1,e=.returned u∧RdP W r (.string S.rest) S.rdR S1 u w' :=
 (rrest_any W r S.l S.e h.r).mono fun e w' q=>⟨_,_,q.1,rfl,rfl,Nat.zero_le _,q.2.rdr,q.2.kept⟩
theorem kLeft (h:Rk w T r S W):Calls Tryz.prog 77 #[.pointer (some ⟨r,0,none⟩)] W fun e w'=>e=.returned (.int .i64 (S.l.length:Int))∧Kept No W w' :=
 (left_any W r S.l S.e h.r).mono fun e w' q=>⟨q.1,q.2▸Kept.refl No _⟩
theorem kErr (h:Rk w T r S W):Calls Tryz.prog 89 #[.pointer (some ⟨r,0,none⟩)] W fun e w'=>e=.returned (.int .i64 S.e)∧Kept No W w' :=
 (err_any W r S.l S.e h.r).mono fun e w' q=>⟨q.1,q.2▸Kept.refl No _⟩
theorem dNum (n:Int) (h0:0≤n) (h4:n≤4) (h:Rd B w T r S W):Calls Tryz.prog 80 #[.pointer (some ⟨r,0,none⟩),.int .i64 n] W fun e w'=>∃ u S1,e=.returned u∧RdD B W r (.int .u64 (S.num n:Int)) (S.rd n) S1 u w' :=
 (rnum_any W r B S.l S.e n h.r h0 h4).mono fun e w' q=>⟨_,_,q.1,rfl,rfl,Nat.le_trans (rd_le _ _) h.n,q.2.rdr,q.2.kept⟩
theorem dBin (h:Rd B w T r S W):Calls Tryz.prog 130 #[.pointer (some ⟨r,0,none⟩)] W fun e w'=>∃ u S1,e=.returned u∧RdD B W r (.string S.bin) S.rdB S1 u w' :=
 (refbin_any W r B S.l S.e h.r).mono fun e w' q=>⟨_,_,q.1,rfl,rfl,Nat.le_trans (rdB_le _) h.n,q.2.rdr,q.2.kept⟩
theorem dRest (h:Rd B w T r S W):Calls Tryz.prog 83 #[.pointer (some ⟨r,0,none⟩)] W fun e w'=>∃ u S1,e=.returned u∧RdD B W r (.string S.rest) S.rdR S1 u w' :=
 (refrest_any W r B S.l S.e h.r).mono fun e w' q=>⟨_,_,q.1,rfl,rfl,Nat.zero_le _,q.2.rdr,q.2.kept⟩
theorem dLeft (h:Rd B w T r S W):Calls Tryz.prog 85 #[.pointer (some ⟨r,0,none⟩)] W fun e w'=>∃ u S1,e=.returned u∧RdD B W r (.int .i64 (S.l.length:Int)) S S1 u w' :=
 (rleft_any W r B S.l S.e h.r).mono fun e w' q=>⟨_,_,q.1,rfl,rfl,h.n,q.2.rdr,q.2.kept⟩
def TkP (W:World) (r:Nat) (L:List Pr) (x:Bool) (S' S1:Ts) (u:Value) (W':World):Prop:=∃ a c,u=.tuple #[.slice a L.length c,.bool x]∧Row W' a (PC L)∧(a=none→L.length=0∧c=0)∧S1=S'∧Rk W (One r) r S1 W'
def TkD (B:ByteArray) (W:World) (r:Nat) (L:List Pr) (x:Bool) (S' S1:Ts) (u:Value) (W':World):Prop:=∃ a c,u=.tuple #[.slice a L.length c,.bool x]∧Row W' a (PC L)∧(a=none→L.length=0∧c=0)∧S1=S'∧Rd B W (One r) r S1 W'
theorem kTake (h:Rk w T r S W) (hT:Tabs W):Calls Tryz.prog 168 #[.pointer (some ⟨r,0,none⟩)] W fun e w'=>∃ u S1,e=.returned u∧TkP W r (takeR S.l S.e).1 (takeR S.l S.e).2 ⟨takeLeft S.l S.e,takeErr S.l S.e,S.b⟩ S1 u w':=by
 have hn:=h.n;refine (ptake_any W r S.l S.e h.r hn hT (fun _ _=>sort_any _ ?_)).mono fun e w' ⟨a,c,h1,h2,h3,h4⟩=>⟨_,_,h1,a,c,rfl,h2,h3,rfl,Nat.le_trans (takeLeft_le _ _) hn,h4.rdr,h4.kept⟩
 have h1:(eachL (takeSec S.l S.e)).1.length≤(takeSec S.l S.e).length:=each_len _ _;have h2:=takeSec_len S.l S.e;omega
theorem dTake (h:Rd B w T r S W):Calls Tryz.prog 132 #[.pointer (some ⟨r,0,none⟩)] W fun e w'=>∃ u S1,e=.returned u∧TkD B W r (takeR S.l S.e).1 (takeR S.l S.e).2 ⟨takeLeft S.l S.e,takeErr S.l S.e,S.b⟩ S1 u w' :=
 (rtake6_any W r B S.l S.e h.r h.n).mono fun e w' ⟨a,c,h1,h2,h3,h4⟩=>⟨_,_,h1,a,c,rfl,h2,h3,rfl,Nat.le_trans (takeLeft_le _ _) h.n,h4.rdr,h4.kept⟩
end
theorem rowW {W:World} {a:Option Addr} {L:List Pr} (h:L=[]):Row W a (PC L):=by subst h;exact .nil _ _
theorem rowFi {W:World} {a:Option Addr} {L:List Fi} (h:L=[]):Row W a (FC L):=by subst h;exact .nil _ _
theorem rowBy {W:World} {a:Option Addr} {L:List UInt8} (h:L=[]):Row W a (B8 L):=by subst h;exact .nil _ _
structure Emp (W:World) (x:Pk) (s:Sl):Prop where
 w:x.willProps=[]
 p:Row W s.pa (PC x.props)
 nf:x.filters=[]
 nc:x.codes=[]
 sc:s.ca=none∧s.cc=0
structure TcP (w:World) (v:Int) (t r:Nat) (x:Value) (S' S1:Ts) (u:Value) (W:World):Prop where
 u:u=x
 s:S1=S'
 z:Rk w (Tt t r) r S1 W
 tb:Blk W t 127 #[.int .i64 v,.pointer (some ⟨r,0,none⟩),.bool S1.b]
structure ScP (w:World) (v:Int) (t r:Nat) (L:List Pr) (S' S1:Ts) (a:Option Addr) (c:Nat) (u:Value) (W:World):Prop where
 u:u=.slice a L.length c
 s:S1=S'
 z:Rk w (Tt t r) r S1 W
 tb:Blk W t 127 #[.int .i64 v,.pointer (some ⟨r,0,none⟩),.bool S1.b]
 row:Row W a (PC L)
structure KcP (w:World) (v:Int) (t q r:Nat) (K:Pk × Ts) (S1:Ts) (P1:Pk) (s1:Sl) (u:Value) (W:World):Prop where
 u:u=.tuple #[]
 s:S1=K.2
 p:P1=K.1
 z:Rk w (Tq t q r) r S1 W
 tb:Blk W t 127 #[.int .i64 v,.pointer (some ⟨r,0,none⟩),.bool S1.b]
 qb:Blk W q 33 (Pk.cells P1 s1)
 wr:Row W s1.wa (PC P1.willProps)
 pr:Row W s1.pa (PC P1.props)
 nf:P1.filters=[]
 nc:P1.codes=[]
 sc:s1.ca=none∧s1.cc=0
structure TcD (B:ByteArray) (w:World) (v:Int) (t r:Nat) (x:Value) (S' S1:Ts) (u:Value) (W:World):Prop where
 u:u=x
 s:S1=S'
 z:Rd B w (Tt t r) r S1 W
 tb:Blk W t 137 #[.pointer (some ⟨r,0,none⟩),.int .i64 v,.bool S1.b]
structure ScD (B:ByteArray) (w:World) (v:Int) (t r:Nat) (L:List Pr) (S' S1:Ts) (a:Option Addr) (c:Nat) (u:Value) (W:World):Prop where
 u:u=.slice a L.length c
 s:S1=S'
 z:Rd B w (Tt t r) r S1 W
 tb:Blk W t 137 #[.pointer (some ⟨r,0,none⟩),.int .i64 v,.bool S1.b]
 row:Row W a (PC L)
structure KcD (B:ByteArray) (w:World) (v:Int) (t q r:Nat) (K:Pk × Ts) (S1:Ts) (P1:Pk) (s1:Sl) (u:Value) (W:World):Prop where
 u:u=.tuple #[]
 s:S1=K.2
 p:P1=K.1
 z:Rd B w (Tq t q r) r S1 W
 tb:Blk W t 137 #[.pointer (some ⟨r,0,none⟩),.int .i64 v,.bool S1.b]
 qb:Blk W q 27 (Pk.cells P1 s1)
 wr:Row W s1.wa (PC P1.willProps)
 pr:Row W s1.pa (PC P1.props)
 nf:P1.filters=[]
 nc:P1.codes=[]
 sc:s1.ca=none∧s1.cc=0
end Go.Proofs.YtdeecgmihfakgaaGreatDoor
namespace Go.Proofs.YtdeecgmihfakgaaGreatDoor
open Go.RowKit
set_option linter.unusedVariables false
set_option linter.unusedSimpArgs false
set_option maxRecDepth 100000
theorem ag_124 (w:World):(isAgg 124).run Tryz.prog w=.ok false w:=by kernel_rfl
instance:NA 124:=⟨ag_124⟩
theorem ga_57 (w:World):(isAgg 57).run Tryz.prog w=.ok true w:=by kernel_rfl
theorem gs_57 (w:World):(Go.sizeOf 57).run Tryz.prog w=.ok 4 w:=by kernel_rfl
theorem gs_127 (w:World):(Go.sizeOf 127).run Tryz.prog w=.ok 3 w:=by kernel_rfl
theorem fa_57_0 (B o:Nat) (w:World):(Instr.fieldAt 57 (.pointer (some ⟨B,o,none⟩)) 0).run Tryz.prog w=.ok (.pointer (some ⟨B,o+0,none⟩)) w:=by
 have u:=Tryz.underlying57
 go_simp
instance:FA 57 0 0:=⟨fa_57_0⟩
theorem fa_57_1 (B o:Nat) (w:World):(Instr.fieldAt 57 (.pointer (some ⟨B,o,none⟩)) 1).run Tryz.prog w=.ok (.pointer (some ⟨B,o+1,none⟩)) w:=by
 have u:=Tryz.underlying57
 go_simp
instance:FA 57 1 1:=⟨fa_57_1⟩
theorem fa_57_2 (B o:Nat) (w:World):(Instr.fieldAt 57 (.pointer (some ⟨B,o,none⟩)) 2).run Tryz.prog w=.ok (.pointer (some ⟨B,o+2,none⟩)) w:=by
 have u:=Tryz.underlying57
 go_simp
instance:FA 57 2 2:=⟨fa_57_2⟩
theorem fa_57_3 (B o:Nat) (w:World):(Instr.fieldAt 57 (.pointer (some ⟨B,o,none⟩)) 3).run Tryz.prog w=.ok (.pointer (some ⟨B,o+3,none⟩)) w:=by
 have u:=Tryz.underlying57
 go_simp
instance:FA 57 3 3:=⟨fa_57_3⟩
theorem fa_127_0 (B o:Nat) (w:World):(Instr.fieldAt 127 (.pointer (some ⟨B,o,none⟩)) 0).run Tryz.prog w=.ok (.pointer (some ⟨B,o+0,none⟩)) w:=by
 have u:=Tryz.underlying127
 go_simp
instance:FA 127 0 0:=⟨fa_127_0⟩
theorem fa_127_1 (B o:Nat) (w:World):(Instr.fieldAt 127 (.pointer (some ⟨B,o,none⟩)) 1).run Tryz.prog w=.ok (.pointer (some ⟨B,o+1,none⟩)) w:=by
 have u:=Tryz.underlying127
 go_simp
instance:FA 127 1 1:=⟨fa_127_1⟩
theorem fa_127_2 (B o:Nat) (w:World):(Instr.fieldAt 127 (.pointer (some ⟨B,o,none⟩)) 2).run Tryz.prog w=.ok (.pointer (some ⟨B,o+2,none⟩)) w:=by
 have u:=Tryz.underlying127
 go_simp
instance:FA 127 2 2:=⟨fa_127_2⟩
theorem al_57 (w:World):(Instr.alloc 57 true (.tuple #[])).run Tryz.prog w=.ok (.pointer (some ⟨w.heap.size,0,none⟩)) (w.alloc (.cells #[(.int .i64 0),(.int .u8 0),(.int .i64 0),(.int .i64 0)] 57)):=by kernel_rfl
theorem al_127 (w:World):(Instr.alloc 127 true (.tuple #[])).run Tryz.prog w=.ok (.pointer (some ⟨w.heap.size,0,none⟩)) (w.alloc (.cells #[(.int .i64 0),(.pointer none),(.bool false)] 127)):=by kernel_rfl
theorem fn_122 (args:Array Value) (w:World):(callFunc 122 args).run Tryz.prog w=.ok (.enter 122 args) w:=gx_fn Tryz.func122 (by kernel_rfl) rfl args w
theorem fn_121 (args:Array Value) (w:World):(callFunc 121 args).run Tryz.prog w=.ok (.enter 121 args) w:=gx_fn Tryz.func121 (by kernel_rfl) rfl args w
theorem fn_75 (args:Array Value) (w:World):(callFunc 75 args).run Tryz.prog w=.ok (.enter 75 args) w:=gx_fn Tryz.func75 (by kernel_rfl) rfl args w
theorem fn_127 (args:Array Value) (w:World):(callFunc 127 args).run Tryz.prog w=.ok (.enter 127 args) w:=gx_fn Tryz.func127 (by kernel_rfl) rfl args w
theorem fn_164 (args:Array Value) (w:World):(callFunc 164 args).run Tryz.prog w=.ok (.enter 164 args) w:=gx_fn Tryz.func164 (by kernel_rfl) rfl args w
theorem fn_76 (args:Array Value) (w:World):(callFunc 76 args).run Tryz.prog w=.ok (.enter 76 args) w:=gx_fn Tryz.func76 (by kernel_rfl) rfl args w
theorem fn_123 (args:Array Value) (w:World):(callFunc 123 args).run Tryz.prog w=.ok (.enter 123 args) w:=gx_fn Tryz.func123 (by kernel_rfl) rfl args w
theorem fn_126 (args:Array Value) (w:World):(callFunc 126 args).run Tryz.prog w=.ok (.enter 126 args) w:=gx_fn Tryz.func126 (by kernel_rfl) rfl args w
theorem fn_125 (args:Array Value) (w:World):(callFunc 125 args).run Tryz.prog w=.ok (.enter 125 args) w:=gx_fn Tryz.func125 (by kernel_rfl) rfl args w
theorem fn_166 (args:Array Value) (w:World):(callFunc 166 args).run Tryz.prog w=.ok (.enter 166 args) w:=gx_fn Tryz.func166 (by kernel_rfl) rfl args w
theorem fn_167 (args:Array Value) (w:World):(callFunc 167 args).run Tryz.prog w=.ok (.enter 167 args) w:=gx_fn Tryz.func167 (by kernel_rfl) rfl args w
theorem fn_165 (args:Array Value) (w:World):(callFunc 165 args).run Tryz.prog w=.ok (.enter 165 args) w:=gx_fn Tryz.func165 (by kernel_rfl) rfl args w
theorem fn_87 (args:Array Value) (w:World):(callFunc 87 args).run Tryz.prog w=.ok (.enter 87 args) w:=gx_fn Tryz.func87 (by kernel_rfl) rfl args w
theorem fn_89 (args:Array Value) (w:World):(callFunc 89 args).run Tryz.prog w=.ok (.enter 89 args) w:=gx_fn Tryz.func89 (by kernel_rfl) rfl args w
theorem fn_77 (args:Array Value) (w:World):(callFunc 77 args).run Tryz.prog w=.ok (.enter 77 args) w:=gx_fn Tryz.func77 (by kernel_rfl) rfl args w
theorem fn_128 (args:Array Value) (w:World):(callFunc 128 args).run Tryz.prog w=.ok (.enter 128 args) w:=gx_fn Tryz.func128 (by kernel_rfl) rfl args w
theorem fn_124 (args:Array Value) (w:World):(callFunc 124 args).run Tryz.prog w=.ok (.enter 124 args) w:=gx_fn Tryz.func124 (by kernel_rfl) rfl args w
theorem fn_88 (args:Array Value) (w:World):(callFunc 88 args).run Tryz.prog w=.ok (.enter 88 args) w:=gx_fn Tryz.func88 (by kernel_rfl) rfl args w
theorem fn_26 (args:Array Value) (w:World):(callFunc 26 args).run Tryz.prog w=.ok (.enter 26 args) w:=gx_fn Tryz.func26 (by kernel_rfl) rfl args w
theorem fn_30 (args:Array Value) (w:World):(callFunc 30 args).run Tryz.prog w=.ok (.enter 30 args) w:=gx_fn Tryz.func30 (by kernel_rfl) rfl args w
theorem fn_72 (args:Array Value) (w:World):(callFunc 72 args).run Tryz.prog w=.ok (.enter 72 args) w:=gx_fn Tryz.func72 (by kernel_rfl) rfl args w
theorem fn_73 (args:Array Value) (w:World):(callFunc 73 args).run Tryz.prog w=.ok (.enter 73 args) w:=gx_fn Tryz.func73 (by kernel_rfl) rfl args w
theorem fn_168 (args:Array Value) (w:World):(callFunc 168 args).run Tryz.prog w=.ok (.enter 168 args) w:=gx_fn Tryz.func168 (by kernel_rfl) rfl args w
theorem fn_74 (args:Array Value) (w:World):(callFunc 74 args).run Tryz.prog w=.ok (.enter 74 args) w:=gx_fn Tryz.func74 (by kernel_rfl) rfl args w
open Go.RowKit
set_option linter.unusedVariables false
set_option linter.unusedSimpArgs false
set_option maxRecDepth 100000
set_option maxHeartbeats 4000000 in
theorem ok_any (w0 w:World) (t r:Nat) (v:Int) (S:Ts) (H:Hp w0 w [⟨t,127,#[(.int .i64 v),(.pointer (some ⟨r,0,none⟩)),(.bool S.b)]⟩]) (hr0:w0.heap.size≤r) (hR:Rdr w r S.l S.e) (hn:S.l.length≤100000) :
  Calls Tryz.prog 76 #[.pointer (some ⟨t,0,none⟩)] w fun e w'=>e=.returned (.bool S.ok)∧Kept No w w':=by
 have HB:=H;clear H;let RR:Ending→World→Prop:=fun e w'=>e=.returned (.bool S.ok)∧Kept No w w'
 go_enter Tryz.func76,Tryz.ntmps76
 generalize hA:({ tmps:=_,defers:=[] }:Act)=A;have F:Fr A 16 [(0,(.pointer (some ⟨t,0,none⟩)))]:=by rw[← hA];exact (Fr.cons (i:=0) (v:=(.pointer (some ⟨t,0,none⟩))) (Fr.nil0 rfl rfl) rfl)
 clear hA;have H:=HB;clear HB;have hZ:Rk w (Tt t r) r S w:=Rk.start hR hn;clear hR hn;have hKN:Kept No w w:=Kept.refl No w;refine wp_seq_k (fun K1 hK1=>gx_region ?_);refine zd ?_;intro A F;refine wpList_nil (hK1 _ _ ?_);refine wp_seq_k (fun K2 hK2=>gx_region ?_);refine zd ?_;intro A F;refine hz_do F rfl (ex_nil rfl (F.e rfl)) ?_;intro A F
 iterate 4 (refine zd ?_;intro A F)
 refine zg ?_;intro A F;refine hz_g F rfl (hw_t F rfl rfl rfl) (fun hG=>(ex_nil rfl (F.o rfl hG))) ?_;intro A F;refine hz_fldg F rfl rfl (hw_t F rfl rfl rfl) rfl rfl (fun hG=>(F.o rfl hG)) (fa_127_1 _ _ _) (ag_124 _) (H.c 0 rfl rfl) ?_;intro A F;refine hz_callg F H rfl (hw_t F rfl rfl rfl) (fun hG=>(ex_call rfl rfl (gx_l1 (F.o rfl hG) gx_l0) fn_89)) (fun hG=>kErr hZ) ?_;clear F H A;intro W A hk H F;replace hZ:=hZ.no hk;replace hKN:=hKN.trans hk;clear hk;refine zgb (rn_eql) ?_;intro A F;refine hz_do F rfl (ex_pickA rfl (F.e rfl) (fun hx=>(F.o rfl hx)) rfl) ?_;intro A F;refine zd ?_;intro A F;refine wpList_nil (hK2 _ _ ?_);refine gx_ret ?_;refine (show bodyPost _ Tryz.f76 RR Exit.ret _ _ from zr ?_);exact ⟨congrArg (fun b=>Ending.returned (.bool b)) (by unfold Ts.ok;rfl),hKN⟩
set_option maxHeartbeats 4000000 in
theorem need_any (w0 w:World) (t r:Nat) (v:Int) (S:Ts) (H:Hp w0 w [⟨t,127,#[(.int .i64 v),(.pointer (some ⟨r,0,none⟩)),(.bool S.b)]⟩]) (hr0:w0.heap.size≤r) (hR:Rdr w r S.l S.e) (hn:S.l.length≤100000) (so:Bool) :
  Calls Tryz.prog 164 #[.pointer (some ⟨t,0,none⟩),.bool so] w fun e w'=>∃ u,∃ x:Ts,e=.returned u∧(TcP w v t r (.tuple #[]) (S.need so)) x u w':=by
 have HB:=H;clear H;let RR:Ending→World→Prop:=fun e w'=>∃ u,∃ x:Ts,e=.returned u∧(TcP w v t r (.tuple #[]) (S.need so)) x u w'
 go_enter Tryz.func164,Tryz.ntmps164
 generalize hA:({ tmps:=_,defers:=[] }:Act)=A;have F:Fr A 15 [(1,(.bool so)),(0,(.pointer (some ⟨t,0,none⟩)))]:=by rw[← hA];exact (Fr.cons (i:=1) (v:=(.bool so)) (Fr.cons (i:=0) (v:=(.pointer (some ⟨t,0,none⟩))) (Fr.nil0 rfl rfl) rfl) rfl)
 clear hA;have H:=HB;clear HB;have hZ:Rk w (Tt t r) r S w:=Rk.start hR hn;clear hR hn;refine gx_region ?_
 iterate 2 (refine zd ?_;intro A F)
 refine hz_do F rfl (ex_nil rfl (F.e rfl)) ?_;intro A F
 iterate 3 (refine zd ?_;intro A F)
 iterate 2 (refine zg ?_;intro A F)
 refine hz_do F rfl (ex_pickO rfl (F.e rfl) (fun hx=>(F.o rfl (gnt hx))) rfl) ?_;intro A F;refine hz_do F rfl (ex_nil rfl (F.e rfl)) ?_;intro A F;refine zd ?_;intro A F;refine zs [] (#[(.int .i64 v),(.pointer (some ⟨r,0,none⟩)),(.bool (S.b||(!so)))]) ?_;intro W H9 hk;replace hZ:=hZ.st (H.b.at_ (j:=0) rfl).1 (ne9 rfl) (ne9 rfl) (.inr (.inl rfl)) hk;clear H hk;have H:=H9;clear H9;refine wpList_nil ?_;refine (show bodyPost _ Tryz.f164 RR Exit.normal _ _ from zn0 ?_);exact ⟨_,_,rfl,⟨rfl,rfl,⟨hZ.n,hZ.r,hZ.k⟩,(H.b.at_ (j:=0) rfl).1⟩⟩
theorem num1_lt (S:Ts):S.num 1 < 256:=by
 have h1:=taken_le 1 S.l S.e;have h2:=num_lt (taken 1 S.l S.e);have h4:256 ^ (taken 1 S.l S.e).length≤256 ^ 1:=Nat.pow_le_pow_right (by decide) (by omega);unfold Ts.num;omega
theorem bin_size {S:Ts} (h:S.l.length≤100000):S.bin.size≤9223372036854775807:=by
 have h1:=taken_le (num (taken 2 S.l S.e)) (leftL 2 S.l S.e) (leftE 2 S.l S.e);have h2:=num_lt (taken 2 S.l S.e);have h3:=taken_le 2 S.l S.e;have h4:256 ^ (taken 2 S.l S.e).length≤256 ^ 2:=Nat.pow_le_pow_right (by decide) (by omega);have h5:S.bin.size=(binTaken S.l S.e).length:=by unfold Ts.bin;rw[ba_size]
 rw[h5];unfold binTaken;omega
set_option maxHeartbeats 4000000 in
theorem text_any (w0 w:World) (t r:Nat) (v:Int) (S:Ts) (H:Hp w0 w [⟨t,127,#[(.int .i64 v),(.pointer (some ⟨r,0,none⟩)),(.bool S.b)]⟩]) (hr0:w0.heap.size≤r) (hR:Rdr w r S.l S.e) (hn:S.l.length≤100000) (hT:Tabs w0) :
  Calls Tryz.prog 166 #[.pointer (some ⟨t,0,none⟩)] w fun e w'=>∃ u,∃ x:Ts,e=.returned u∧(TcP w v t r (.string S.bin) S.rdT) x u w':=by
 have HB:=H;clear H;let RR:Ending→World→Prop:=fun e w'=>∃ u,∃ x:Ts,e=.returned u∧(TcP w v t r (.string S.bin) S.rdT) x u w'
 go_enter Tryz.func166,Tryz.ntmps166
 generalize hA:({ tmps:=_,defers:=[] }:Act)=A;have F:Fr A 14 [(0,(.pointer (some ⟨t,0,none⟩)))]:=by rw[← hA];exact (Fr.cons (i:=0) (v:=(.pointer (some ⟨t,0,none⟩))) (Fr.nil0 rfl rfl) rfl)
 clear hA;have H:=HB;clear HB;have hZ:Rk w (Tt t r) r S w:=Rk.start hR hn;clear hR hn;refine wp_seq_k (fun K1 hK1=>gx_region ?_);refine zd ?_;intro A F;refine wpList_nil (hK1 _ _ ?_);refine wp_seq_k (fun K2 hK2=>gx_region ?_);refine zd ?_;intro A F;refine hz_do F rfl (ex_nil rfl (F.e rfl)) ?_;intro A F
 iterate 2 (refine zd ?_;intro A F)
 have hn9:=hZ.n;refine hz_callX (fun (x:Ts)=>[⟨t,127,#[(.int .i64 v),(.pointer (some ⟨r,0,none⟩)),(.bool x.b)]⟩]) (RdP _ r (.string S.bin) S.rdB) F rfl (ex_call rfl rfl (gx_l1 (F.e rfl) gx_l0) fn_165) (kBin hZ) (fun S3 _ _ h=>Hp.re H (h.2.2.k) (ge1 hr0) ⟨⟨rfl,fun hb=>by rw[show S3=_ from h.2.1];exact (kP1 (h.2.2.k) hZ.r.blk (ne9 rfl)).2 hb⟩,trivial⟩) ?_;clear F H A;intro S3 vv W A hR H F;obtain ⟨rfl,hS3,hZ9⟩:=hR
 try dsimp only at H
 replace hZ:=hZ.step hZ9 tt1;clear hZ9;refine zd ?_;intro A F;refine wpList_nil (hK2 _ _ ?_);refine wp_seq_k (fun K4 hK4=>gx_region ?_)
 iterate 2 (refine zd ?_;intro A F)
 refine hz_callk F H rfl (ex_call rfl rfl (gx_l1 (F.e rfl) gx_l0) fn_183) (right_any S.bin _ (bin_size hn9) (hT.kept H.k)) ?_;clear F H A;intro W A hk H F;replace hZ:=hZ.no hk;clear hk;obtain ⟨htb,ht0⟩:=H.b.at_ (j:=0) rfl;refine hz_callX (fun (x:Ts)=>[⟨t,127,#[(.int .i64 v),(.pointer (some ⟨r,0,none⟩)),(.bool x.b)]⟩]) (TcP _ v t r (.tuple #[]) (S3.need (okText S.bin))) F rfl (ex_call rfl rfl (gx_l1 (F.e rfl) (gx_l1 (F.e rfl) gx_l0)) fn_164) (need_any w0 _ t r v S3 ⟨H.k,htb,ht0,by simp,trivial⟩ hr0 hZ.r hZ.n (okText S.bin)) (fun S6 _ _ h=>Hp.re H (h.z.k) (ge2 hr0 ht0) ⟨⟨rfl,fun _=>h.tb⟩,trivial⟩) ?_;clear F H A;intro S6 vv W A hR H F;obtain ⟨rfl,hS6,hZ9,-⟩:=hR
 try dsimp only at H
 replace hZ:=hZ.step hZ9 tt2;clear hZ9;clear htb ht0;refine wpList_nil (hK4 _ _ ?_);refine wp_seq_k (fun K7 hK7=>gx_region ?_)
 iterate 2 (refine zd ?_;intro A F)
 refine wpList_nil (hK7 _ _ ?_);refine gx_ret ?_;refine (show bodyPost _ Tryz.f166 RR Exit.ret _ _ from zr ?_);exact (by subst hS6 hS3;exact ⟨_,_,rfl,⟨rfl,rfl,hZ,(H.b.at_ (j:=0) rfl).1⟩⟩)
set_option maxHeartbeats 4000000 in
theorem tsec_any (w0 w:World) (t r:Nat) (v:Int) (S:Ts) (H:Hp w0 w [⟨t,127,#[(.int .i64 v),(.pointer (some ⟨r,0,none⟩)),(.bool S.b)]⟩]) (hr0:w0.heap.size≤r) (hR:Rdr w r S.l S.e) (hn:S.l.length≤100000) (hT:Tabs w0) :
  Calls Tryz.prog 126 #[.pointer (some ⟨t,0,none⟩)] w fun e w'=>∃ u,∃ x:Ts × Option Addr × Nat,e=.returned u∧(fun x=>ScP w v t r (S.sec v) (S.rdS v) x.1 x.2.1 x.2.2) x u w':=by
 have HB:=H;clear H;let RR:Ending→World→Prop:=fun e w'=>∃ u,∃ x:Ts × Option Addr × Nat,e=.returned u∧(fun x=>ScP w v t r (S.sec v) (S.rdS v) x.1 x.2.1 x.2.2) x u w'
 go_enter Tryz.func126,Tryz.ntmps126
 generalize hA:({ tmps:=_,defers:=[] }:Act)=A;have F:Fr A 22 [(0,(.pointer (some ⟨t,0,none⟩)))]:=by rw[← hA];exact (Fr.cons (i:=0) (v:=(.pointer (some ⟨t,0,none⟩))) (Fr.nil0 rfl rfl) rfl)
 clear hA;have H:=HB;clear HB;have hZ:Rk w (Tt t r) r S w:=Rk.start hR hn;clear hR hn;refine wp_seq_k (fun K1 hK1=>gx_region ?_);refine zd ?_;intro A F;refine wpList_nil (hK1 _ _ ?_);refine wp_seq_k (fun K2 hK2=>?_);refine wp_seq_k (fun K3 hK3=>gx_region ?_);refine zd ?_;intro A F;refine hz_do F rfl (ex_nil rfl (F.e rfl)) ?_;intro A F
 iterate 2 (refine zd ?_;intro A F)
 refine zb (rn_eql) ?_;intro A F;refine wpList_nil (hK3 _ _ ?_);refine zc (fun hb4=>?_) (fun hb4=>?_)
 ·skip
  refine wp_seq_k (fun K5 hK5=>gx_region ?_);refine zd ?_;intro A F;refine wpList_nil (hK5 _ _ ?_);refine gx_ret ?_;refine (show bodyPost _ Tryz.f126 RR Exit.ret _ _ from zr ?_);exact ⟨_,(S,none,0),rfl,⟨by rw[show S.sec v=[] from if_pos (of_decide_eq_true hb4)];rfl,(if_pos (of_decide_eq_true hb4)).symm,hZ,(H.b.at_ (j:=0) rfl).1,by rw[show S.sec v=[] from if_pos (of_decide_eq_true hb4)];exact .nil _ _⟩⟩
 refine wp_skip (hK2 _ _ ?_);refine wp_seq_k (fun K6 hK6=>gx_region ?_);refine zd ?_;intro A F;refine hz_do F rfl (ex_nil rfl (F.e rfl)) ?_;intro A F
 iterate 2 (refine zd ?_;intro A F)
 refine hz_callX (fun (x:Ts)=>[⟨t,127,#[(.int .i64 v),(.pointer (some ⟨r,0,none⟩)),(.bool x.b)]⟩]) (TkP _ r (takeR S.l S.e).1 (takeR S.l S.e).2 (⟨takeLeft S.l S.e,takeErr S.l S.e,S.b⟩:Ts)) F rfl (ex_call rfl rfl (gx_l1 (F.e rfl) gx_l0) fn_168) (kTake hZ (hT.kept H.k)) (fun S7 _ _ h=>Hp.re H (h.choose_spec.choose_spec.2.2.2.2.k) (ge1 hr0) ⟨⟨rfl,fun hb=>by rw[show S7=_ from h.choose_spec.choose_spec.2.2.2.1];exact (kP1 (h.choose_spec.choose_spec.2.2.2.2.k) hZ.r.blk (ne9 rfl)).2 hb⟩,trivial⟩) ?_;clear F H A;intro S7 vv W A hR H F;obtain ⟨a7,c7,rfl,hP7,hN7,hS7,hZ9⟩:=hR
 try dsimp only at H
 replace hZ:=hZ.step hZ9 tt1;clear hZ9
 iterate 5 (refine zd ?_;intro A F)
 refine wpList_nil (hK6 _ _ ?_);refine wp_seq_k (fun K8 hK8=>gx_region ?_)
 iterate 2 (refine zd ?_;intro A F)
 obtain ⟨htb,ht0⟩:=H.b.at_ (j:=0) rfl;refine hz_callX (fun (x:Ts)=>[⟨t,127,#[(.int .i64 v),(.pointer (some ⟨r,0,none⟩)),(.bool x.b)]⟩]) (TcP _ v t r (.tuple #[]) (S7.need ((takeR S.l S.e).2))) F rfl (ex_call rfl rfl (gx_l1 (F.e rfl) (gx_l1 (F.e rfl) gx_l0)) fn_164) (need_any w0 _ t r v S7 ⟨H.k,htb,ht0,by simp,trivial⟩ hr0 hZ.r hZ.n ((takeR S.l S.e).2)) (fun S9 _ _ h=>Hp.re H (h.z.k) (ge2 hr0 ht0) ⟨⟨rfl,fun _=>h.tb⟩,trivial⟩) ?_;clear F H A;intro S9 vv W A hR H F;obtain ⟨rfl,hS9,hZ9,-⟩:=hR
 try dsimp only at H
 replace hP7:=hP7.propK hZ9.k (uO2 hZ.r htb (nu3 (by simp) (by simp) (by simp)));replace hZ:=hZ.step hZ9 tt2;clear hZ9;clear htb ht0;refine wpList_nil (hK8 _ _ ?_);refine wp_seq_k (fun K10 hK10=>gx_region ?_)
 iterate 2 (refine zd ?_;intro A F)
 refine wpList_nil (hK10 _ _ ?_);refine gx_ret ?_;refine (show bodyPost _ Tryz.f126 RR Exit.ret _ _ from zr ?_);exact (by have hE1:S.sec v=(takeR S.l S.e).1:=if_neg (of_decide_eq_false hb4);have hE2:=show S.rdS v=_ from if_neg (of_decide_eq_false hb4);subst hS9 hS7;refine ⟨_,(_,a7,c7),rfl,⟨by rw[hE1];rfl,hE2.symm,hZ,(H.b.at_ (j:=0) rfl).1,by rw[hE1];exact hP7⟩⟩)
open Go.RowKit
set_option linter.unusedVariables false
set_option linter.unusedSimpArgs false
set_option maxRecDepth 100000
set_option maxHeartbeats 4000000 in
theorem short_any9 (w0 w:World) (t q r:Nat) (v:Int) (S:Ts) (P:Pk) (s:Sl) (H:Hp w0 w [⟨q,33,(Pk.cells P s)⟩,⟨t,127,#[(.int .i64 v),(.pointer (some ⟨r,0,none⟩)),(.bool S.b)]⟩]) (hr0:w0.heap.size≤r) (hR:Rdr w r S.l S.e) (hn:S.l.length≤100000) (hE:Emp w P s) (hT:Tabs w0) :
  Calls Tryz.prog 125 #[.pointer (some ⟨t,0,none⟩),.pointer (some ⟨q,0,none⟩)] w fun e w'=>∃ u,∃ x:Ts × Pk × Sl,e=.returned u∧(fun x=>KcP w v t q r (shortK v P S) x.1 x.2.1 x.2.2) x u w':=by
 have HB:=H;clear H;let RR:Ending→World→Prop:=fun e w'=>∃ u,∃ x:Ts × Pk × Sl,e=.returned u∧(fun x=>KcP w v t q r (shortK v P S) x.1 x.2.1 x.2.2) x u w'
 go_enter Tryz.func125,Tryz.ntmps125
 generalize hA:({ tmps:=_,defers:=[] }:Act)=A;have F:Fr A 36 [(1,(.pointer (some ⟨q,0,none⟩))),(0,(.pointer (some ⟨t,0,none⟩)))]:=by rw[← hA];exact (Fr.cons (i:=1) (v:=(.pointer (some ⟨q,0,none⟩))) (Fr.cons (i:=0) (v:=(.pointer (some ⟨t,0,none⟩))) (Fr.nil0 rfl rfl) rfl) rfl)
 clear hA;have H:=HB;clear HB;have hZ:Rk w (Tq t q r) r S w:=Rk.start hR hn;clear hR hn;have htq:t < q:=H.b.2.2.1 _ (List.mem_cons_self ..);have hPp:=hE.p;refine wp_seq_k (fun K1 hK1=>?_);refine wp_seq_k (fun K2 hK2=>gx_region ?_);refine zd ?_;intro A F;refine hz_do F rfl (ex_nil rfl (F.e rfl)) ?_;intro A F
 iterate 2 (refine zd ?_;intro A F)
 refine zb (rn_eql) ?_;intro A F;refine zd ?_;intro A F;refine zg ?_;intro A F;refine hz_g F rfl (hw_f F rfl rfl rfl) (fun hG=>(ex_nil rfl (F.o rfl hG))) ?_;intro A F;refine hz_fldg F rfl rfl (hw_f F rfl rfl rfl) rfl rfl (fun hG=>(F.o rfl hG)) (fa_127_1 _ _ _) (ag_124 _) (H.c 1 rfl rfl) ?_;intro A F;refine hz_callg F H rfl (hw_f F rfl rfl rfl) (fun hG=>(ex_call rfl rfl (gx_l1 (F.o rfl hG) gx_l0) fn_77)) (fun hG=>kLeft hZ) ?_;clear F H A;intro W A hk H F;replace hZ:=hZ.no hk;replace hPp:=hPp.keptNo hk;clear hk;refine zgb (rn_eqlN (i:=S.l.length) (j:=0)) ?_;intro A F;refine hz_do F rfl (ex_pickO rfl (F.e rfl) (fun hx=>(F.o rfl (gnt hx))) rfl) ?_;intro A F;refine wpList_nil (hK2 _ _ ?_);refine zc (fun hb4=>?_) (fun hb4=>?_)
 ·skip
  refine gx_ret ?_;refine (show bodyPost _ Tryz.f125 RR Exit.ret _ _ from zr0 ?_);exact (by have hK9:=(show shortK v P S=_ from if_pos (by have h9:=hb4;simpa using h9));exact ⟨_,(_,_,s),rfl,⟨rfl,(congrArg Prod.snd hK9).symm,(congrArg Prod.fst hK9).symm,hZ,(H.b.at_ (j:=1) rfl).1,(H.b.at_ (j:=0) rfl).1,rowW hE.w,hPp,hE.nf,hE.nc,hE.sc⟩⟩)
 refine wp_skip (hK1 _ _ ?_);refine wp_seq_k (fun K5 hK5=>gx_region ?_)
 iterate 2 (refine zd ?_;intro A F)
 refine hz_do F rfl (ex_nil rfl (F.e rfl)) ?_;intro A F
 iterate 2 (refine zd ?_;intro A F)
 refine hz_callX (fun (x:Ts)=>[⟨q,33,(Pk.cells P s)⟩,⟨t,127,#[(.int .i64 v),(.pointer (some ⟨r,0,none⟩)),(.bool x.b)]⟩]) (RdP _ r (.int .u8 ((S.num 1:Int))) (S.rd 1)) F rfl (ex_call rfl rfl (gx_l1 (F.e rfl) gx_l0) fn_87) (kByte hZ) (fun S6 _ _ h=>Hp.re H (h.2.2.k) (ge1 hr0) ⟨kP1 (h.2.2.k) hZ.r.blk (ne9 rfl),⟨⟨rfl,fun hb=>by rw[show S6=_ from h.2.1];exact (kP1 (h.2.2.k) hZ.r.blk (ne9 rfl)).2 hb⟩,trivial⟩⟩) ?_;clear F H A;intro S6 vv W A hR H F;obtain ⟨rfl,hS6,hZ9⟩:=hR
 try dsimp only at H
 replace hPp:=hPp.propK hZ9.k (uO1 hZ.r);replace hZ:=hZ.step hZ9 tq1;clear hZ9;have h86:=num1_lt S;refine hz_do F rfl (ex_nil rfl (F.e rfl)) ?_;intro A F;refine zd ?_;intro A F;let P7:Pk:={ P with code:=S.num 1 }
 refine zs [] ((Pk.cells P7 s)) ?_;intro W H9 hk;replace hZ:=hZ.st (H.b.at_ (j:=0) rfl).1 (ne9 rfl) (ne9 rfl) (.inr (.inr (.inl rfl))) hk;replace hPp:=hPp.propK hk (uOne (H.b.at_ (j:=0) rfl).1 (nuPk _ _));clear H hk;have H:=H9;clear H9;refine wpList_nil (hK5 _ _ ?_);refine wp_seq_k (fun K8 hK8=>gx_region ?_);refine zd ?_;intro A F;refine hz_do F rfl (ex_nil rfl (F.e rfl)) ?_;intro A F
 iterate 2 (refine zd ?_;intro A F)
 refine hz_callk F H rfl (ex_call rfl rfl (gx_l1 (F.e rfl) gx_l0) fn_77) (kLeft hZ) ?_;clear F H A;intro W A hk H F;replace hZ:=hZ.no hk;replace hPp:=hPp.keptNo hk;clear hk;refine zb (rn_gtrN (i:=S6.l.length) (j:=0)) ?_;intro A F;refine wpList_nil (hK8 _ _ ?_);refine zc (fun hb10=>?_) (fun hb10=>?_)
 ·skip
  replace F:=((F.nil.cons (F.g 1 _ rfl)).cons (F.g 0 _ rfl))
  refine gx_region ?_
  iterate 2 (refine zd ?_;intro A F)
  obtain ⟨htb,ht0⟩:=H.b.at_ (j:=1) rfl;refine hz_callX (fun (x:Ts × Option Addr × Nat)=>[⟨q,33,(Pk.cells P7 s)⟩,⟨t,127,#[(.int .i64 v),(.pointer (some ⟨r,0,none⟩)),(.bool x.1.b)]⟩]) (fun x=>ScP _ v t r (S6.sec v) (S6.rdS v) x.1 x.2.1 x.2.2) F rfl (ex_call rfl rfl (gx_l1 (F.e rfl) gx_l0) fn_126) (tsec_any w0 _ t r v S6 ⟨H.k,htb,ht0,by simp,trivial⟩ hr0 hZ.r hZ.n hT) (fun x9 _ _ h=>Hp.re H (h.z.k) (ge2 hr0 ht0) ⟨kP2 (h.z.k) hZ.r.blk (ne9 rfl) htb (ne9 rfl),⟨⟨rfl,fun _=>h.tb⟩,trivial⟩⟩) ?_;clear F H A;intro x9 vv W A hR H F;obtain ⟨S11,a11,c11⟩:=x9;replace hR:ScP _ v t r (S6.sec v) (S6.rdS v) S11 a11 c11 vv W:=hR;obtain ⟨rfl,hS11,hZ9,-,hP11⟩:=hR
  try dsimp only at H
  replace hPp:=hPp.propK hZ9.k (uO2 hZ.r htb (nu3 (by simp) (by simp) (by simp)));replace hZ:=hZ.step hZ9 tq2;clear hZ9;clear htb ht0;refine hz_do F rfl (ex_nil rfl (F.e rfl)) ?_;intro A F;refine zd ?_;intro A F;let s12:Sl:={ s with pa:=a11,pc:=c11 }
  let P13:Pk:={ P7 with props:=(S6.sec v) }
  refine zs [] ((Pk.cells P13 s12)) ?_;intro W H9 hk;replace hZ:=hZ.st (H.b.at_ (j:=0) rfl).1 (ne9 rfl) (ne9 rfl) (.inr (.inr (.inl rfl))) hk;replace hPp:=hPp.propK hk (uOne (H.b.at_ (j:=0) rfl).1 (nuPk _ _));replace hP11:=hP11.propK hk (uOne (H.b.at_ (j:=0) rfl).1 (nuPk _ _));clear H hk;have H:=H9;clear H9;refine wpList_nil ?_;refine (show bodyPost _ Tryz.f125 RR Exit.normal _ _ from zn0 ?_);exact (by have hK9:=(show shortK v P S=_ from (if_neg (by have h9:=hb4;simpa using h9)).trans (if_neg (by have h9:=of_decide_eq_true hb10;simp only[hS6]at h9;omega)));subst hS11 hS6;exact ⟨_,(_,_,s12),rfl,⟨rfl,(congrArg Prod.snd hK9).symm,(congrArg Prod.fst hK9).symm,hZ,(H.b.at_ (j:=1) rfl).1,(H.b.at_ (j:=0) rfl).1,rowW hE.w,hP11,hE.nf,hE.nc,hE.sc⟩⟩)
 replace F:=((F.nil.cons (F.g 1 _ rfl)).cons (F.g 0 _ rfl))
 refine wp_skip ?_;refine (show bodyPost _ Tryz.f125 RR Exit.normal _ _ from zn0 ?_);exact (by have hK9:=(show shortK v P S=_ from (if_neg (by have h9:=hb4;simpa using h9)).trans (if_pos (by have h9:=of_decide_eq_false hb10;simp only[hS6]at h9;omega)));subst hS6;exact ⟨_,(_,_,s),rfl,⟨rfl,(congrArg Prod.snd hK9).symm,(congrArg Prod.fst hK9).symm,hZ,(H.b.at_ (j:=1) rfl).1,(H.b.at_ (j:=0) rfl).1,rowW hE.w,hPp,hE.nf,hE.nc,hE.sc⟩⟩)
set_option maxHeartbeats 4000000 in
theorem will_any9 (w0 w:World) (t q r:Nat) (v:Int) (S:Ts) (P:Pk) (s:Sl) (H:Hp w0 w [⟨q,33,(Pk.cells P s)⟩,⟨t,127,#[(.int .i64 v),(.pointer (some ⟨r,0,none⟩)),(.bool S.b)]⟩]) (hr0:w0.heap.size≤r) (hR:Rdr w r S.l S.e) (hn:S.l.length≤100000) (hE:Emp w P s) (n:Nat) (hn8:n < 256) (hT:Tabs w0) :
  Calls Tryz.prog 167 #[.pointer (some ⟨t,0,none⟩),.pointer (some ⟨q,0,none⟩),.int .u8 n] w fun e w'=>∃ u,∃ x:Ts × Pk × Sl,e=.returned u∧(fun x=>KcP w v t q r (willK v n P S) x.1 x.2.1 x.2.2) x u w':=by
 have HB:=H;clear H;let RR:Ending→World→Prop:=fun e w'=>∃ u,∃ x:Ts × Pk × Sl,e=.returned u∧(fun x=>KcP w v t q r (willK v n P S) x.1 x.2.1 x.2.2) x u w'
 go_enter Tryz.func167,Tryz.ntmps167
 generalize hA:({ tmps:=_,defers:=[] }:Act)=A;have F:Fr A 52 [(2,(.int .u8 ((n:Int)))),(1,(.pointer (some ⟨q,0,none⟩))),(0,(.pointer (some ⟨t,0,none⟩)))]:=by rw[← hA];exact (Fr.cons (i:=2) (v:=(.int .u8 ((n:Int)))) (Fr.cons (i:=1) (v:=(.pointer (some ⟨q,0,none⟩))) (Fr.cons (i:=0) (v:=(.pointer (some ⟨t,0,none⟩))) (Fr.nil0 rfl rfl) rfl) rfl) rfl)
 clear hA;have H:=HB;clear HB;have hZ:Rk w (Tq t q r) r S w:=Rk.start hR hn;clear hR hn;have htq:t < q:=H.b.2.2.1 _ (List.mem_cons_self ..);have hPp:=hE.p;refine wp_seq_k (fun K1 hK1=>gx_region ?_)
 iterate 2 (refine zd ?_;intro A F)
 refine hz_do F rfl (ex_bin rfl (F.e rfl) gx_evc (rn_and8 (m:=n) (n:=4) (by omega) (by decide))) ?_;intro A F;refine zb (rn_neqN (i:=((n &&& 4))) (j:=0)) ?_;intro A F;refine hz_do F rfl (ex_nil rfl (F.e rfl)) ?_;intro A F;refine zd ?_;intro A F;let P2:Pk:={ P with hasWill:=!decide (((n &&& 4))=0) }
 refine zs [] ((Pk.cells P2 s)) ?_;intro W H9 hk;replace hZ:=hZ.st (H.b.at_ (j:=0) rfl).1 (ne9 rfl) (ne9 rfl) (.inr (.inr (.inl rfl))) hk;replace hPp:=hPp.propK hk (uOne (H.b.at_ (j:=0) rfl).1 (nuPk _ _));clear H hk;have H:=H9;clear H9;refine wpList_nil (hK1 _ _ ?_);refine wp_seq_k (fun K3 hK3=>?_);refine wp_seq_k (fun K4 hK4=>gx_region ?_);refine zd ?_;intro A F;refine hz_do F rfl (ex_nil rfl (F.e rfl)) ?_;intro A F
 iterate 3 (refine zd ?_;intro A F)
 refine wpList_nil (hK4 _ _ ?_);refine zc (fun hb5=>?_) (fun hb5=>?_)
 ·skip
  refine wp_seq_k (fun K6 hK6=>gx_region ?_)
  iterate 2 (refine zd ?_;intro A F)
  refine hz_do F rfl (ex_bin rfl (F.e rfl) gx_evc (rn_and8 (m:=n) (n:=56) (by omega) (by decide))) ?_;intro A F;refine zb (rn_eqlN (i:=((n &&& 56))) (j:=0)) ?_;intro A F;obtain ⟨htb,ht0⟩:=H.b.at_ (j:=1) rfl;refine hz_callX (fun (x:Ts)=>[⟨q,33,(Pk.cells P2 s)⟩,⟨t,127,#[(.int .i64 v),(.pointer (some ⟨r,0,none⟩)),(.bool x.b)]⟩]) (TcP _ v t r (.tuple #[]) (S.need (decide (((n &&& 56))=0)))) F rfl (ex_call rfl rfl (gx_l1 (F.e rfl) (gx_l1 (F.e rfl) gx_l0)) fn_164) (need_any w0 _ t r v S ⟨H.k,htb,ht0,by simp,trivial⟩ hr0 hZ.r hZ.n (decide (((n &&& 56))=0))) (fun S7 _ _ h=>Hp.re H (h.z.k) (ge2 hr0 ht0) ⟨kP2 (h.z.k) hZ.r.blk (ne9 rfl) htb (ne9 rfl),⟨⟨rfl,fun _=>h.tb⟩,trivial⟩⟩) ?_;clear F H A;intro S7 vv W A hR H F;obtain ⟨rfl,hS7,hZ9,-⟩:=hR
  try dsimp only at H
  replace hPp:=hPp.propK hZ9.k (uO2 hZ.r htb (nu3 (by simp) (by simp) (by simp)));replace hZ:=hZ.step hZ9 tq2;clear hZ9;clear htb ht0;refine wpList_nil (hK6 _ _ ?_);refine gx_ret ?_;refine (show bodyPost _ Tryz.f167 RR Exit.ret _ _ from zr0 ?_);exact (by have hK9:=(show willK v n P S=_ from if_neg (by have h9:(!(!decide (((n &&& 4))=0)))=true:=hb5;simpa using h9));subst hS7;exact ⟨_,(_,_,s),rfl,⟨rfl,(congrArg Prod.snd hK9).symm,(congrArg Prod.fst hK9).symm,hZ,(H.b.at_ (j:=1) rfl).1,(H.b.at_ (j:=0) rfl).1,rowW hE.w,hPp,hE.nf,hE.nc,hE.sc⟩⟩)
 refine wp_skip (hK3 _ _ ?_);refine wp_seq_k (fun K8 hK8=>gx_region ?_)
 iterate 2 (refine zd ?_;intro A F)
 refine hz_do F rfl (ex_bin rfl (F.e rfl) gx_evc (rn_quoN (i:=n) (j:=8) (by decide) (gx_wrap_u8 (by omega) (by omega)))) ?_;intro A F;refine hz_do F rfl (ex_bin rfl (F.e rfl) gx_evc (rn_and8 (m:=(n / 8)) (n:=3) (by omega) (by decide))) ?_;intro A F;refine hz_do F rfl (ex_nil rfl (F.e rfl)) ?_;intro A F;refine zd ?_;intro A F;let P9:Pk:={ P2 with willQoS:=((((n / 8)) &&& 3)) }
 refine zs [] ((Pk.cells P9 s)) ?_;intro W H9 hk;replace hZ:=hZ.st (H.b.at_ (j:=0) rfl).1 (ne9 rfl) (ne9 rfl) (.inr (.inr (.inl rfl))) hk;replace hPp:=hPp.propK hk (uOne (H.b.at_ (j:=0) rfl).1 (nuPk _ _));clear H hk;have H:=H9;clear H9;refine wpList_nil (hK8 _ _ ?_);refine wp_seq_k (fun K10 hK10=>gx_region ?_)
 iterate 2 (refine zd ?_;intro A F)
 refine hz_do F rfl (ex_bin rfl (F.e rfl) gx_evc (rn_and8 (m:=n) (n:=32) (by omega) (by decide))) ?_;intro A F;refine zb (rn_neqN (i:=((n &&& 32))) (j:=0)) ?_;intro A F;refine hz_do F rfl (ex_nil rfl (F.e rfl)) ?_;intro A F;refine zd ?_;intro A F;let P11:Pk:={ P9 with willRetain:=!decide (((n &&& 32))=0) }
 refine zs [] ((Pk.cells P11 s)) ?_;intro W H9 hk;replace hZ:=hZ.st (H.b.at_ (j:=0) rfl).1 (ne9 rfl) (ne9 rfl) (.inr (.inr (.inl rfl))) hk;replace hPp:=hPp.propK hk (uOne (H.b.at_ (j:=0) rfl).1 (nuPk _ _));clear H hk;have H:=H9;clear H9;refine wpList_nil (hK10 _ _ ?_);refine wp_seq_k (fun K12 hK12=>gx_region ?_)
 iterate 2 (refine zd ?_;intro A F)
 obtain ⟨htb,ht0⟩:=H.b.at_ (j:=1) rfl;refine hz_callX (fun (x:Ts × Option Addr × Nat)=>[⟨q,33,(Pk.cells P11 s)⟩,⟨t,127,#[(.int .i64 v),(.pointer (some ⟨r,0,none⟩)),(.bool x.1.b)]⟩]) (fun x=>ScP _ v t r (S.sec v) (S.rdS v) x.1 x.2.1 x.2.2) F rfl (ex_call rfl rfl (gx_l1 (F.e rfl) gx_l0) fn_126) (tsec_any w0 _ t r v S ⟨H.k,htb,ht0,by simp,trivial⟩ hr0 hZ.r hZ.n hT) (fun x9 _ _ h=>Hp.re H (h.z.k) (ge2 hr0 ht0) ⟨kP2 (h.z.k) hZ.r.blk (ne9 rfl) htb (ne9 rfl),⟨⟨rfl,fun _=>h.tb⟩,trivial⟩⟩) ?_;clear F H A;intro x9 vv W A hR H F;obtain ⟨S13,a13,c13⟩:=x9;replace hR:ScP _ v t r (S.sec v) (S.rdS v) S13 a13 c13 vv W:=hR;obtain ⟨rfl,hS13,hZ9,-,hP13⟩:=hR
 try dsimp only at H
 replace hPp:=hPp.propK hZ9.k (uO2 hZ.r htb (nu3 (by simp) (by simp) (by simp)));replace hZ:=hZ.step hZ9 tq2;clear hZ9;clear htb ht0;refine hz_do F rfl (ex_nil rfl (F.e rfl)) ?_;intro A F;refine zd ?_;intro A F;let s14:Sl:={ s with wa:=a13,wc:=c13 }
 let P15:Pk:={ P11 with willProps:=(S.sec v) }
 refine zs [] ((Pk.cells P15 s14)) ?_;intro W H9 hk;replace hZ:=hZ.st (H.b.at_ (j:=0) rfl).1 (ne9 rfl) (ne9 rfl) (.inr (.inr (.inl rfl))) hk;replace hPp:=hPp.propK hk (uOne (H.b.at_ (j:=0) rfl).1 (nuPk _ _));replace hP13:=hP13.propK hk (uOne (H.b.at_ (j:=0) rfl).1 (nuPk _ _));clear H hk;have H:=H9;clear H9;refine wpList_nil (hK12 _ _ ?_);refine wp_seq_k (fun K16 hK16=>gx_region ?_)
 iterate 2 (refine zd ?_;intro A F)
 obtain ⟨htb,ht0⟩:=H.b.at_ (j:=1) rfl;refine hz_callX (fun (x:Ts)=>[⟨q,33,(Pk.cells P15 s14)⟩,⟨t,127,#[(.int .i64 v),(.pointer (some ⟨r,0,none⟩)),(.bool x.b)]⟩]) (TcP _ v t r (.string S13.bin) S13.rdT) F rfl (ex_call rfl rfl (gx_l1 (F.e rfl) gx_l0) fn_166) (text_any w0 _ t r v S13 ⟨H.k,htb,ht0,by simp,trivial⟩ hr0 hZ.r hZ.n hT) (fun S17 _ _ h=>Hp.re H (h.z.k) (ge2 hr0 ht0) ⟨kP2 (h.z.k) hZ.r.blk (ne9 rfl) htb (ne9 rfl),⟨⟨rfl,fun _=>h.tb⟩,trivial⟩⟩) ?_;clear F H A;intro S17 vv W A hR H F;obtain ⟨rfl,hS17,hZ9,-⟩:=hR
 try dsimp only at H
 replace hPp:=hPp.propK hZ9.k (uO2 hZ.r htb (nu3 (by simp) (by simp) (by simp)));replace hP13:=hP13.propK hZ9.k (uO2 hZ.r htb (nu3 (by simp) (by simp) (by simp)));replace hZ:=hZ.step hZ9 tq2;clear hZ9;clear htb ht0;refine hz_do F rfl (ex_nil rfl (F.e rfl)) ?_;intro A F;refine zd ?_;intro A F;let P18:Pk:={ P15 with willTopic:=S13.bin }
 refine zs [] ((Pk.cells P18 s14)) ?_;intro W H9 hk;replace hZ:=hZ.st (H.b.at_ (j:=0) rfl).1 (ne9 rfl) (ne9 rfl) (.inr (.inr (.inl rfl))) hk;replace hPp:=hPp.propK hk (uOne (H.b.at_ (j:=0) rfl).1 (nuPk _ _));replace hP13:=hP13.propK hk (uOne (H.b.at_ (j:=0) rfl).1 (nuPk _ _));clear H hk;have H:=H9;clear H9;refine wpList_nil (hK16 _ _ ?_);refine gx_region ?_
 iterate 2 (refine zd ?_;intro A F)
 refine hz_do F rfl (ex_nil rfl (F.e rfl)) ?_;intro A F
 iterate 2 (refine zd ?_;intro A F)
 refine hz_callX (fun (x:Ts)=>[⟨q,33,(Pk.cells P18 s14)⟩,⟨t,127,#[(.int .i64 v),(.pointer (some ⟨r,0,none⟩)),(.bool x.b)]⟩]) (RdP _ r (.string S17.bin) S17.rdB) F rfl (ex_call rfl rfl (gx_l1 (F.e rfl) gx_l0) fn_165) (kBin hZ) (fun S19 _ _ h=>Hp.re H (h.2.2.k) (ge1 hr0) ⟨kP1 (h.2.2.k) hZ.r.blk (ne9 rfl),⟨⟨rfl,fun hb=>by rw[show S19=_ from h.2.1];exact (kP1 (h.2.2.k) hZ.r.blk (ne9 rfl)).2 hb⟩,trivial⟩⟩) ?_;clear F H A;intro S19 vv W A hR H F;obtain ⟨rfl,hS19,hZ9⟩:=hR
 try dsimp only at H
 replace hPp:=hPp.propK hZ9.k (uO1 hZ.r);replace hP13:=hP13.propK hZ9.k (uO1 hZ.r);replace hZ:=hZ.step hZ9 tq1;clear hZ9;refine hz_do F rfl (ex_nil rfl (F.e rfl)) ?_;intro A F;refine zd ?_;intro A F;let P20:Pk:={ P18 with willLoad:=S17.bin }
 refine zs [] ((Pk.cells P20 s14)) ?_;intro W H9 hk;replace hZ:=hZ.st (H.b.at_ (j:=0) rfl).1 (ne9 rfl) (ne9 rfl) (.inr (.inr (.inl rfl))) hk;replace hPp:=hPp.propK hk (uOne (H.b.at_ (j:=0) rfl).1 (nuPk _ _));replace hP13:=hP13.propK hk (uOne (H.b.at_ (j:=0) rfl).1 (nuPk _ _));clear H hk;have H:=H9;clear H9;refine wpList_nil ?_;refine (show bodyPost _ Tryz.f167 RR Exit.normal _ _ from zn0 ?_);exact (by have hK9:=(show willK v n P S=_ from if_pos (by have h9:(!(!decide (((n &&& 4))=0)))=false:=hb5;simpa using h9));subst hS19 hS17 hS13;exact ⟨_,(_,_,s14),rfl,⟨rfl,(congrArg Prod.snd hK9).symm,(congrArg Prod.fst hK9).symm,hZ,(H.b.at_ (j:=1) rfl).1,(H.b.at_ (j:=0) rfl).1,hP13,hPp,hE.nf,hE.nc,hE.sc⟩⟩)
set_option maxHeartbeats 4000000 in
theorem connack_any9 (w0 w:World) (t q r:Nat) (v:Int) (S:Ts) (P:Pk) (s:Sl) (H:Hp w0 w [⟨q,33,(Pk.cells P s)⟩,⟨t,127,#[(.int .i64 v),(.pointer (some ⟨r,0,none⟩)),(.bool S.b)]⟩]) (hr0:w0.heap.size≤r) (hR:Rdr w r S.l S.e) (hn:S.l.length≤100000) (hE:Emp w P s) (hP2:P=zk 2) (hT:Tabs w0) :
  Calls Tryz.prog 122 #[.pointer (some ⟨t,0,none⟩),.pointer (some ⟨q,0,none⟩)] w fun e w'=>∃ u,∃ x:Ts × Pk × Sl,e=.returned u∧(fun x=>KcP w v t q r (connackK v S) x.1 x.2.1 x.2.2) x u w':=by
 have HB:=H;clear H;let RR:Ending→World→Prop:=fun e w'=>∃ u,∃ x:Ts × Pk × Sl,e=.returned u∧(fun x=>KcP w v t q r (connackK v S) x.1 x.2.1 x.2.2) x u w'
 go_enter Tryz.func122,Tryz.ntmps122
 generalize hA:({ tmps:=_,defers:=[] }:Act)=A;have F:Fr A 32 [(1,(.pointer (some ⟨q,0,none⟩))),(0,(.pointer (some ⟨t,0,none⟩)))]:=by rw[← hA];exact (Fr.cons (i:=1) (v:=(.pointer (some ⟨q,0,none⟩))) (Fr.cons (i:=0) (v:=(.pointer (some ⟨t,0,none⟩))) (Fr.nil0 rfl rfl) rfl) rfl)
 clear hA;have H:=HB;clear HB;have hZ:Rk w (Tq t q r) r S w:=Rk.start hR hn;clear hR hn;have htq:t < q:=H.b.2.2.1 _ (List.mem_cons_self ..);have hPp:=hE.p;refine wp_seq_k (fun K1 hK1=>gx_region ?_);refine zd ?_;intro A F;refine hz_do F rfl (ex_nil rfl (F.e rfl)) ?_;intro A F
 iterate 2 (refine zd ?_;intro A F)
 refine hz_callX (fun (x:Ts)=>[⟨q,33,(Pk.cells P s)⟩,⟨t,127,#[(.int .i64 v),(.pointer (some ⟨r,0,none⟩)),(.bool x.b)]⟩]) (RdP _ r (.int .u8 ((S.num 1:Int))) (S.rd 1)) F rfl (ex_call rfl rfl (gx_l1 (F.e rfl) gx_l0) fn_87) (kByte hZ) (fun S2 _ _ h=>Hp.re H (h.2.2.k) (ge1 hr0) ⟨kP1 (h.2.2.k) hZ.r.blk (ne9 rfl),⟨⟨rfl,fun hb=>by rw[show S2=_ from h.2.1];exact (kP1 (h.2.2.k) hZ.r.blk (ne9 rfl)).2 hb⟩,trivial⟩⟩) ?_;clear F H A;intro S2 vv W A hR H F;obtain ⟨rfl,hS2,hZ9⟩:=hR
 try dsimp only at H
 replace hPp:=hPp.propK hZ9.k (uO1 hZ.r);replace hZ:=hZ.step hZ9 tq1;clear hZ9;have h82:=num1_lt S;refine zd ?_;intro A F;refine wpList_nil (hK1 _ _ ?_);refine wp_seq_k (fun K3 hK3=>gx_region ?_)
 iterate 2 (refine zd ?_;intro A F)
 refine zb (rn_leqN (i:=S.num 1) (j:=1)) ?_;intro A F;obtain ⟨htb,ht0⟩:=H.b.at_ (j:=1) rfl;refine hz_callX (fun (x:Ts)=>[⟨q,33,(Pk.cells P s)⟩,⟨t,127,#[(.int .i64 v),(.pointer (some ⟨r,0,none⟩)),(.bool x.b)]⟩]) (TcP _ v t r (.tuple #[]) (S2.need (decide (S.num 1≤1)))) F rfl (ex_call rfl rfl (gx_l1 (F.e rfl) (gx_l1 (F.e rfl) gx_l0)) fn_164) (need_any w0 _ t r v S2 ⟨H.k,htb,ht0,by simp,trivial⟩ hr0 hZ.r hZ.n (decide (S.num 1≤1))) (fun S4 _ _ h=>Hp.re H (h.z.k) (ge2 hr0 ht0) ⟨kP2 (h.z.k) hZ.r.blk (ne9 rfl) htb (ne9 rfl),⟨⟨rfl,fun _=>h.tb⟩,trivial⟩⟩) ?_;clear F H A;intro S4 vv W A hR H F;obtain ⟨rfl,hS4,hZ9,-⟩:=hR
 try dsimp only at H
 replace hPp:=hPp.propK hZ9.k (uO2 hZ.r htb (nu3 (by simp) (by simp) (by simp)));replace hZ:=hZ.step hZ9 tq2;clear hZ9;clear htb ht0;refine wpList_nil (hK3 _ _ ?_);refine wp_seq_k (fun K5 hK5=>gx_region ?_)
 iterate 2 (refine zd ?_;intro A F)
 refine zb (rn_eqlN (i:=S.num 1) (j:=1)) ?_;intro A F;refine hz_do F rfl (ex_nil rfl (F.e rfl)) ?_;intro A F;refine zd ?_;intro A F;let P6:Pk:={ P with present:=decide (S.num 1=1) }
 refine zs [] ((Pk.cells P6 s)) ?_;intro W H9 hk;replace hZ:=hZ.st (H.b.at_ (j:=0) rfl).1 (ne9 rfl) (ne9 rfl) (.inr (.inr (.inl rfl))) hk;replace hPp:=hPp.propK hk (uOne (H.b.at_ (j:=0) rfl).1 (nuPk _ _));clear H hk;have H:=H9;clear H9;refine wpList_nil (hK5 _ _ ?_);refine wp_seq_k (fun K7 hK7=>gx_region ?_)
 iterate 2 (refine zd ?_;intro A F)
 refine hz_do F rfl (ex_nil rfl (F.e rfl)) ?_;intro A F
 iterate 2 (refine zd ?_;intro A F)
 refine hz_callX (fun (x:Ts)=>[⟨q,33,(Pk.cells P6 s)⟩,⟨t,127,#[(.int .i64 v),(.pointer (some ⟨r,0,none⟩)),(.bool x.b)]⟩]) (RdP _ r (.int .u8 ((S4.num 1:Int))) (S4.rd 1)) F rfl (ex_call rfl rfl (gx_l1 (F.e rfl) gx_l0) fn_87) (kByte hZ) (fun S8 _ _ h=>Hp.re H (h.2.2.k) (ge1 hr0) ⟨kP1 (h.2.2.k) hZ.r.blk (ne9 rfl),⟨⟨rfl,fun hb=>by rw[show S8=_ from h.2.1];exact (kP1 (h.2.2.k) hZ.r.blk (ne9 rfl)).2 hb⟩,trivial⟩⟩) ?_;clear F H A;intro S8 vv W A hR H F;obtain ⟨rfl,hS8,hZ9⟩:=hR
 try dsimp only at H
 replace hPp:=hPp.propK hZ9.k (uO1 hZ.r);replace hZ:=hZ.step hZ9 tq1;clear hZ9;have h88:=num1_lt S4;refine hz_do F rfl (ex_nil rfl (F.e rfl)) ?_;intro A F;refine zd ?_;intro A F;let P9:Pk:={ P6 with code:=S4.num 1 }
 refine zs [] ((Pk.cells P9 s)) ?_;intro W H9 hk;replace hZ:=hZ.st (H.b.at_ (j:=0) rfl).1 (ne9 rfl) (ne9 rfl) (.inr (.inr (.inl rfl))) hk;replace hPp:=hPp.propK hk (uOne (H.b.at_ (j:=0) rfl).1 (nuPk _ _));clear H hk;have H:=H9;clear H9;refine wpList_nil (hK7 _ _ ?_);refine gx_region ?_
 iterate 2 (refine zd ?_;intro A F)
 obtain ⟨htb,ht0⟩:=H.b.at_ (j:=1) rfl;refine hz_callX (fun (x:Ts × Option Addr × Nat)=>[⟨q,33,(Pk.cells P9 s)⟩,⟨t,127,#[(.int .i64 v),(.pointer (some ⟨r,0,none⟩)),(.bool x.1.b)]⟩]) (fun x=>ScP _ v t r (S8.sec v) (S8.rdS v) x.1 x.2.1 x.2.2) F rfl (ex_call rfl rfl (gx_l1 (F.e rfl) gx_l0) fn_126) (tsec_any w0 _ t r v S8 ⟨H.k,htb,ht0,by simp,trivial⟩ hr0 hZ.r hZ.n hT) (fun x9 _ _ h=>Hp.re H (h.z.k) (ge2 hr0 ht0) ⟨kP2 (h.z.k) hZ.r.blk (ne9 rfl) htb (ne9 rfl),⟨⟨rfl,fun _=>h.tb⟩,trivial⟩⟩) ?_;clear F H A;intro x9 vv W A hR H F;obtain ⟨S10,a10,c10⟩:=x9;replace hR:ScP _ v t r (S8.sec v) (S8.rdS v) S10 a10 c10 vv W:=hR;obtain ⟨rfl,hS10,hZ9,-,hP10⟩:=hR
 try dsimp only at H
 replace hPp:=hPp.propK hZ9.k (uO2 hZ.r htb (nu3 (by simp) (by simp) (by simp)));replace hZ:=hZ.step hZ9 tq2;clear hZ9;clear htb ht0;refine hz_do F rfl (ex_nil rfl (F.e rfl)) ?_;intro A F;refine zd ?_;intro A F;let s11:Sl:={ s with pa:=a10,pc:=c10 }
 let P12:Pk:={ P9 with props:=(S8.sec v) }
 refine zs [] ((Pk.cells P12 s11)) ?_;intro W H9 hk;replace hZ:=hZ.st (H.b.at_ (j:=0) rfl).1 (ne9 rfl) (ne9 rfl) (.inr (.inr (.inl rfl))) hk;replace hPp:=hPp.propK hk (uOne (H.b.at_ (j:=0) rfl).1 (nuPk _ _));replace hP10:=hP10.propK hk (uOne (H.b.at_ (j:=0) rfl).1 (nuPk _ _));clear H hk;have H:=H9;clear H9;refine wpList_nil ?_;refine (show bodyPost _ Tryz.f122 RR Exit.normal _ _ from zn0 ?_);exact (by have hK9:=(show connackK v S=_ from rfl);subst hS10 hS8 hS4 hS2 hP2;exact ⟨_,(_,_,s11),rfl,⟨rfl,(congrArg Prod.snd hK9).symm,(congrArg Prod.fst hK9).symm,hZ,(H.b.at_ (j:=1) rfl).1,(H.b.at_ (j:=0) rfl).1,rowW hE.w,hP10,hE.nf,hE.nc,hE.sc⟩⟩)
set_option maxHeartbeats 4000000 in
theorem publish_any9 (w0 w:World) (t q r:Nat) (v:Int) (S:Ts) (P:Pk) (s:Sl) (H:Hp w0 w [⟨q,33,(Pk.cells P s)⟩,⟨t,127,#[(.int .i64 v),(.pointer (some ⟨r,0,none⟩)),(.bool S.b)]⟩]) (hr0:w0.heap.size≤r) (hR:Rdr w r S.l S.e) (hn:S.l.length≤100000) (hE:Emp w P s) (hP3:P=zk 3) (n:Nat) (hn8:n < 256) (hT:Tabs w0) :
  Calls Tryz.prog 123 #[.pointer (some ⟨t,0,none⟩),.pointer (some ⟨q,0,none⟩),.int .u8 n] w fun e w'=>∃ u,∃ x:Ts × Pk × Sl,e=.returned u∧(fun x=>KcP w v t q r (publK v n S) x.1 x.2.1 x.2.2) x u w':=by
 have HB:=H;clear H;let RR:Ending→World→Prop:=fun e w'=>∃ u,∃ x:Ts × Pk × Sl,e=.returned u∧(fun x=>KcP w v t q r (publK v n S) x.1 x.2.1 x.2.2) x u w'
 go_enter Tryz.func123,Tryz.ntmps123
 generalize hA:({ tmps:=_,defers:=[] }:Act)=A;have F:Fr A 55 [(2,(.int .u8 ((n:Int)))),(1,(.pointer (some ⟨q,0,none⟩))),(0,(.pointer (some ⟨t,0,none⟩)))]:=by rw[← hA];exact (Fr.cons (i:=2) (v:=(.int .u8 ((n:Int)))) (Fr.cons (i:=1) (v:=(.pointer (some ⟨q,0,none⟩))) (Fr.cons (i:=0) (v:=(.pointer (some ⟨t,0,none⟩))) (Fr.nil0 rfl rfl) rfl) rfl) rfl)
 clear hA;have H:=HB;clear HB;have hZ:Rk w (Tq t q r) r S w:=Rk.start hR hn;clear hR hn;have htq:t < q:=H.b.2.2.1 _ (List.mem_cons_self ..);have hPp:=hE.p;refine wp_seq_k (fun K1 hK1=>gx_region ?_)
 iterate 2 (refine zd ?_;intro A F)
 refine hz_do F rfl (ex_bin rfl (F.e rfl) gx_evc (rn_and8 (m:=n) (n:=8) (by omega) (by decide))) ?_;intro A F;refine zb (rn_neqN (i:=((n &&& 8))) (j:=0)) ?_;intro A F;refine hz_do F rfl (ex_nil rfl (F.e rfl)) ?_;intro A F;refine zd ?_;intro A F;let P2:Pk:={ P with dup:=!decide (((n &&& 8))=0) }
 refine zs [] ((Pk.cells P2 s)) ?_;intro W H9 hk;replace hZ:=hZ.st (H.b.at_ (j:=0) rfl).1 (ne9 rfl) (ne9 rfl) (.inr (.inr (.inl rfl))) hk;replace hPp:=hPp.propK hk (uOne (H.b.at_ (j:=0) rfl).1 (nuPk _ _));clear H hk;have H:=H9;clear H9;refine wpList_nil (hK1 _ _ ?_);refine wp_seq_k (fun K3 hK3=>gx_region ?_)
 iterate 2 (refine zd ?_;intro A F)
 refine hz_do F rfl (ex_bin rfl (F.e rfl) gx_evc (rn_quoN (i:=n) (j:=2) (by decide) (gx_wrap_u8 (by omega) (by omega)))) ?_;intro A F;refine hz_do F rfl (ex_bin rfl (F.e rfl) gx_evc (rn_and8 (m:=(n / 2)) (n:=3) (by omega) (by decide))) ?_;intro A F;refine hz_do F rfl (ex_nil rfl (F.e rfl)) ?_;intro A F;refine zd ?_;intro A F;let P4:Pk:={ P2 with qos:=((((n / 2)) &&& 3)) }
 refine zs [] ((Pk.cells P4 s)) ?_;intro W H9 hk;replace hZ:=hZ.st (H.b.at_ (j:=0) rfl).1 (ne9 rfl) (ne9 rfl) (.inr (.inr (.inl rfl))) hk;replace hPp:=hPp.propK hk (uOne (H.b.at_ (j:=0) rfl).1 (nuPk _ _));clear H hk;have H:=H9;clear H9;refine wpList_nil (hK3 _ _ ?_);refine wp_seq_k (fun K5 hK5=>gx_region ?_)
 iterate 2 (refine zd ?_;intro A F)
 refine hz_do F rfl (ex_bin rfl (F.e rfl) gx_evc (rn_and8 (m:=n) (n:=1) (by omega) (by decide))) ?_;intro A F;refine zb (rn_neqN (i:=((n &&& 1))) (j:=0)) ?_;intro A F;refine hz_do F rfl (ex_nil rfl (F.e rfl)) ?_;intro A F;refine zd ?_;intro A F;let P6:Pk:={ P4 with retain:=!decide (((n &&& 1))=0) }
 refine zs [] ((Pk.cells P6 s)) ?_;intro W H9 hk;replace hZ:=hZ.st (H.b.at_ (j:=0) rfl).1 (ne9 rfl) (ne9 rfl) (.inr (.inr (.inl rfl))) hk;replace hPp:=hPp.propK hk (uOne (H.b.at_ (j:=0) rfl).1 (nuPk _ _));clear H hk;have H:=H9;clear H9;refine wpList_nil (hK5 _ _ ?_);refine wp_seq_k (fun K7 hK7=>gx_region ?_)
 iterate 2 (refine zd ?_;intro A F)
 obtain ⟨htb,ht0⟩:=H.b.at_ (j:=1) rfl;refine hz_callX (fun (x:Ts)=>[⟨q,33,(Pk.cells P6 s)⟩,⟨t,127,#[(.int .i64 v),(.pointer (some ⟨r,0,none⟩)),(.bool x.b)]⟩]) (TcP _ v t r (.string S.bin) S.rdT) F rfl (ex_call rfl rfl (gx_l1 (F.e rfl) gx_l0) fn_166) (text_any w0 _ t r v S ⟨H.k,htb,ht0,by simp,trivial⟩ hr0 hZ.r hZ.n hT) (fun S8 _ _ h=>Hp.re H (h.z.k) (ge2 hr0 ht0) ⟨kP2 (h.z.k) hZ.r.blk (ne9 rfl) htb (ne9 rfl),⟨⟨rfl,fun _=>h.tb⟩,trivial⟩⟩) ?_;clear F H A;intro S8 vv W A hR H F;obtain ⟨rfl,hS8,hZ9,-⟩:=hR
 try dsimp only at H
 replace hPp:=hPp.propK hZ9.k (uO2 hZ.r htb (nu3 (by simp) (by simp) (by simp)));replace hZ:=hZ.step hZ9 tq2;clear hZ9;clear htb ht0;refine hz_do F rfl (ex_nil rfl (F.e rfl)) ?_;intro A F;refine zd ?_;intro A F;let P9:Pk:={ P6 with topic:=S.bin }
 refine zs [] ((Pk.cells P9 s)) ?_;intro W H9 hk;replace hZ:=hZ.st (H.b.at_ (j:=0) rfl).1 (ne9 rfl) (ne9 rfl) (.inr (.inr (.inl rfl))) hk;replace hPp:=hPp.propK hk (uOne (H.b.at_ (j:=0) rfl).1 (nuPk _ _));clear H hk;have H:=H9;clear H9;refine wpList_nil (hK7 _ _ ?_);refine hz_cut (fun A W=>∃ i10:Nat,∃ S10:Ts,Fr A 55 [(0,(.pointer (some ⟨t,0,none⟩))),(1,(.pointer (some ⟨q,0,none⟩)))]∧Hp w0 W [⟨q,33,(Pk.cells ({ P9 with id:=i10 }) s)⟩,⟨t,127,#[(.int .i64 v),(.pointer (some ⟨r,0,none⟩)),(.bool S10.b)]⟩]∧(i10=(if (n / 2 &&& 3)=0 then (P9).id else S8.num 2))∧(S10=(if (n / 2 &&& 3)=0 then S8 else S8.rd 2))∧(Rk w (Tq t q r) r S10 W)∧(Row W s.pa (PC P.props))) (fun A W hM=>?_) (fun K11 hK11=>?_)
 rotate_left
 ·skip
  refine wp_seq_k (fun K12 hK12=>gx_region ?_);refine zd ?_;intro A F;refine hz_do F rfl (ex_nil rfl (F.e rfl)) ?_;intro A F
  iterate 2 (refine zd ?_;intro A F)
  refine zb (rn_neqN (i:=((((n / 2)) &&& 3))) (j:=0)) ?_;intro A F;refine wpList_nil (hK12 _ _ ?_);refine zc (fun hb13=>?_) (fun hb13=>?_)
  ·skip
   replace F:=((F.nil.cons (F.g 1 _ rfl)).cons (F.g 0 _ rfl))
   refine gx_region ?_
   iterate 2 (refine zd ?_;intro A F)
   refine hz_do F rfl (ex_nil rfl (F.e rfl)) ?_;intro A F
   iterate 2 (refine zd ?_;intro A F)
   refine hz_callX (fun (x:Ts)=>[⟨q,33,(Pk.cells P9 s)⟩,⟨t,127,#[(.int .i64 v),(.pointer (some ⟨r,0,none⟩)),(.bool x.b)]⟩]) (RdP _ r (.int .u16 ((S8.num 2:Int))) (S8.rd 2)) F rfl (ex_call rfl rfl (gx_l1 (F.e rfl) gx_l0) fn_124) (kTwo hZ) (fun S14 _ _ h=>Hp.re H (h.2.2.k) (ge1 hr0) ⟨kP1 (h.2.2.k) hZ.r.blk (ne9 rfl),⟨⟨rfl,fun hb=>by rw[show S14=_ from h.2.1];exact (kP1 (h.2.2.k) hZ.r.blk (ne9 rfl)).2 hb⟩,trivial⟩⟩) ?_;clear F H A;intro S14 vv W A hR H F;obtain ⟨rfl,hS14,hZ9⟩:=hR
   try dsimp only at H
   replace hPp:=hPp.propK hZ9.k (uO1 hZ.r);replace hZ:=hZ.step hZ9 tq1;clear hZ9;refine hz_do F rfl (ex_nil rfl (F.e rfl)) ?_;intro A F;refine zd ?_;intro A F;let P15:Pk:={ P9 with id:=S8.num 2 }
   refine zs [] ((Pk.cells P15 s)) ?_;intro W H9 hk;replace hZ:=hZ.st (H.b.at_ (j:=0) rfl).1 (ne9 rfl) (ne9 rfl) (.inr (.inr (.inl rfl))) hk;replace hPp:=hPp.propK hk (uOne (H.b.at_ (j:=0) rfl).1 (nuPk _ _));clear H hk;have H:=H9;clear H9;refine wpList_nil ?_;exact hK11 _ _ ⟨(S8.num 2),S14,((F.nil.cons (F.g 1 _ rfl)).cons (F.g 0 _ rfl)),H,(by rw[if_neg (by have h9:=hb13;simpa using h9)]),(by rw[if_neg (by have h9:=hb13;simpa using h9)];exact hS14),hZ,hPp⟩
  replace F:=((F.nil.cons (F.g 1 _ rfl)).cons (F.g 0 _ rfl))
  refine wp_skip ?_;exact hK11 _ _ ⟨(P9).id,S8,((F.nil.cons (F.g 1 _ rfl)).cons (F.g 0 _ rfl)),H,(by rw[if_pos (by have h9:=hb13;simpa using h9)]<;>rfl),(by rw[if_pos (by have h9:=hb13;simpa using h9)]),hZ,hPp⟩
 clear F H;obtain ⟨i10,S10,F,H,hi10,hS10,hZ,hPp⟩:=hM;refine wp_seq_k (fun K16 hK16=>gx_region ?_)
 iterate 2 (refine zd ?_;intro A F)
 obtain ⟨htb,ht0⟩:=H.b.at_ (j:=1) rfl;refine hz_callX (fun (x:Ts × Option Addr × Nat)=>[⟨q,33,(Pk.cells ({ P9 with id:=i10 }) s)⟩,⟨t,127,#[(.int .i64 v),(.pointer (some ⟨r,0,none⟩)),(.bool x.1.b)]⟩]) (fun x=>ScP _ v t r (S10.sec v) (S10.rdS v) x.1 x.2.1 x.2.2) F rfl (ex_call rfl rfl (gx_l1 (F.e rfl) gx_l0) fn_126) (tsec_any w0 _ t r v S10 ⟨H.k,htb,ht0,by simp,trivial⟩ hr0 hZ.r hZ.n hT) (fun x9 _ _ h=>Hp.re H (h.z.k) (ge2 hr0 ht0) ⟨kP2 (h.z.k) hZ.r.blk (ne9 rfl) htb (ne9 rfl),⟨⟨rfl,fun _=>h.tb⟩,trivial⟩⟩) ?_;clear F H A;intro x9 vv W A hR H F;obtain ⟨S17,a17,c17⟩:=x9;replace hR:ScP _ v t r (S10.sec v) (S10.rdS v) S17 a17 c17 vv W:=hR;obtain ⟨rfl,hS17,hZ9,-,hP17⟩:=hR
 try dsimp only at H
 replace hPp:=hPp.propK hZ9.k (uO2 hZ.r htb (nu3 (by simp) (by simp) (by simp)));replace hZ:=hZ.step hZ9 tq2;clear hZ9;clear htb ht0;refine hz_do F rfl (ex_nil rfl (F.e rfl)) ?_;intro A F;refine zd ?_;intro A F;let s18:Sl:={ s with pa:=a17,pc:=c17 }
 let P19:Pk:={ P9 with id:=i10,props:=(S10.sec v) }
 refine zs [] ((Pk.cells P19 s18)) ?_;intro W H9 hk;replace hZ:=hZ.st (H.b.at_ (j:=0) rfl).1 (ne9 rfl) (ne9 rfl) (.inr (.inr (.inl rfl))) hk;replace hPp:=hPp.propK hk (uOne (H.b.at_ (j:=0) rfl).1 (nuPk _ _));replace hP17:=hP17.propK hk (uOne (H.b.at_ (j:=0) rfl).1 (nuPk _ _));clear H hk;have H:=H9;clear H9;refine wpList_nil (hK16 _ _ ?_);refine gx_region ?_
 iterate 2 (refine zd ?_;intro A F)
 refine hz_do F rfl (ex_nil rfl (F.e rfl)) ?_;intro A F
 iterate 2 (refine zd ?_;intro A F)
 refine hz_callX (fun (x:Ts)=>[⟨q,33,(Pk.cells P19 s18)⟩,⟨t,127,#[(.int .i64 v),(.pointer (some ⟨r,0,none⟩)),(.bool x.b)]⟩]) (RdP _ r (.string S17.rest) S17.rdR) F rfl (ex_call rfl rfl (gx_l1 (F.e rfl) gx_l0) fn_128) (kRest hZ) (fun S20 _ _ h=>Hp.re H (h.2.2.k) (ge1 hr0) ⟨kP1 (h.2.2.k) hZ.r.blk (ne9 rfl),⟨⟨rfl,fun hb=>by rw[show S20=_ from h.2.1];exact (kP1 (h.2.2.k) hZ.r.blk (ne9 rfl)).2 hb⟩,trivial⟩⟩) ?_;clear F H A;intro S20 vv W A hR H F;obtain ⟨rfl,hS20,hZ9⟩:=hR
 try dsimp only at H
 replace hPp:=hPp.propK hZ9.k (uO1 hZ.r);replace hP17:=hP17.propK hZ9.k (uO1 hZ.r);replace hZ:=hZ.step hZ9 tq1;clear hZ9;refine hz_do F rfl (ex_nil rfl (F.e rfl)) ?_;intro A F;refine zd ?_;intro A F;let P21:Pk:={ P19 with load:=S17.rest }
 refine zs [] ((Pk.cells P21 s18)) ?_;intro W H9 hk;replace hZ:=hZ.st (H.b.at_ (j:=0) rfl).1 (ne9 rfl) (ne9 rfl) (.inr (.inr (.inl rfl))) hk;replace hPp:=hPp.propK hk (uOne (H.b.at_ (j:=0) rfl).1 (nuPk _ _));replace hP17:=hP17.propK hk (uOne (H.b.at_ (j:=0) rfl).1 (nuPk _ _));clear H hk;have H:=H9;clear H9;refine wpList_nil ?_;refine (show bodyPost _ Tryz.f123 RR Exit.normal _ _ from zn0 ?_);exact (by have hK9:=(show publK v n S=_ from rfl);subst hS20 hS17 hS10 hi10 hS8 hP3;exact ⟨_,(_,_,s18),rfl,⟨rfl,(congrArg Prod.snd hK9).symm,(congrArg Prod.fst hK9).symm,hZ,(H.b.at_ (j:=1) rfl).1,(H.b.at_ (j:=0) rfl).1,rowW hE.w,hP17,hE.nf,hE.nc,hE.sc⟩⟩)
end Go.Proofs.YtdeecgmihfakgaaGreatDoor
