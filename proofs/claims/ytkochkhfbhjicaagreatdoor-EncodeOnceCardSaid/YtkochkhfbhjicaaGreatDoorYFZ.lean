import Derived.Test.YtkochkhfbhjicaaGreatDoorYFW
import Derived.Test.YtkochkhfbhjicaaGreatDoorYF7
import Derived.Test.YtkochkhfbhjicaaGreatDoorYF1
import Derived.Test.YtkochkhfbhjicaaGreatDoorYFK
import Derived.Test.YtkochkhfbhjicaaGreatDoorYF8
import Derived.Test.YtkochkhfbhjicaaGreatDoorYFS
namespace Go.Proofs.YtkochkhfbhjicaaGreatDoor
open Go.RowKit
set_option linter.unusedVariables false
set_option linter.unusedSimpArgs false
set_option maxRecDepth 100000
structure Ts where
 l:List UInt8
 e:Int
 b:Bool
namespace Ts
def num (n:Int) (s:Ts):Nat:=Go.Proofs.YtkochkhfbhjicaaGreatDoor.num (qb n s.l s.e)
def rd (n:Int) (s:Ts):Ts:=⟨qt n s.l s.e,qq n s.l s.e,s.b⟩
def bin (s:Ts):ByteArray:=⟨(zC s.l s.e).toArray⟩
def rdB (s:Ts):Ts:=⟨j55 s.l s.e,j6z s.l s.e,s.b⟩
def need (s:Ts) (x:Bool):Ts:=⟨s.l,s.e,s.b||!x⟩
def rdT (s:Ts):Ts:=s.rdB.need (jb s.bin)
def sec (v:Int) (s:Ts):List Pr:=if v=4 then [] else (jDd s.l s.e).1
def rdS (v:Int) (s:Ts):Ts:=if v=4 then s else Ts.need ⟨j37 s.l s.e,j36 s.l s.e,s.b⟩ (jDd s.l s.e).2
def rest (s:Ts):ByteArray:=⟨s.l.toArray⟩
def rdR (s:Ts):Ts:=⟨[],s.e,s.b⟩
def ok (s:Ts):Bool:=!s.b&&decide (s.e=0)
end Ts
def j6q (v:Int) (p:Pk) (s:Ts):Pk × Ts :=
 if v=4∨s.l.length=0 then (p,s) else if (s.rd 1).l.length=0 then ({p with code:=s.num 1},s.rd 1) else ({p with code:=s.num 1,props:=(s.rd 1).sec v},(s.rd 1).rdS v)
def j2l (k:Int):Nat→Ts→List Fi × Ts
 | 0,s=>([],s)
 | n+1,s=>if s.ok=true∧0<s.l.length then
   (⟨s.bin,if k=8 then s.rdT.num 1 else 0⟩ :: (j2l k n (if k=8 then s.rdT.rd 1 else s.rdT)).1,(j2l k n (if k=8 then s.rdT.rd 1 else s.rdT)).2) else ([],s)
theorem jBc {k:Int} {s:Ts} (h:¬ (s.ok=true∧0<s.l.length)):∀ n,j2l k n s=([],s)
 | 0=>rfl
 | n+1=>if_neg h
theorem jGd {k:Int} {s:Ts} {n:Nat} (h:s.ok=true∧0<s.l.length):j2l k (n+1) s=(⟨s.bin,if k=8 then s.rdT.num 1 else 0⟩ :: (j2l k n (if k=8 then s.rdT.rd 1 else s.rdT)).1,(j2l k n (if k=8 then s.rdT.rd 1 else s.rdT)).2):=if_pos h
def j6y (v:Int) (f:Nat) (p:Pk) (s:Ts):Pk × Ts :=
 if (!decide (f &&& 4=0))=true then
  ({p with hasWill:=!decide (f &&& 4=0),willQoS:=f / 8 &&& 3,willRetain:=!decide (f &&& 32=0),willProps:=s.sec v,willTopic:=(s.rdS v).bin,willLoad:=(s.rdS v).rdT.bin},(s.rdS v).rdT.rdB)
 else ({p with hasWill:=!decide (f &&& 4=0)},s.need (decide (f &&& 56=0)))
def j6w (f:Nat) (p:Pk) (s:Ts):Pk × Ts :=
 if (!decide (f &&& 128=0))=true then ({p with hasUser:=!decide (f &&& 128=0),user:=s.bin},s.rdT) else ({p with hasUser:=!decide (f &&& 128=0)},s)
def j7t (f:Nat) (p:Pk) (s:Ts):Pk × Ts :=
 if (!decide (f &&& 64=0))=true then ({p with hasPass:=!decide (f &&& 64=0),pass:=s.bin},s.rdB) else ({p with hasPass:=!decide (f &&& 64=0)},s)
def jLe (v:Int) (s:Ts):Ts:=((s.rdB.need (decide (s.bin=j74))).rd 1).need (decide (((s.rdB.need (decide (s.bin=j74))).num 1:Int)=v))
def jCm (v:Int) (s:Ts):Pk × Ts :=
 let s2:=jLe v s;let f:=s2.num 1;let s3:=(s2.rd 1).need (decide (f &&& 1=0));let s5:=(s3.rd 2).rdS v;let w:=j6y v f {zk 1 with clean:=!decide (f &&& 2=0),keep:=s3.num 2,props:=(s3.rd 2).sec v,client:=s5.bin} s5.rdT;let u:=j6w f w.1 w.2
 j7t f u.1 u.2
def j5d (v:Int) (s:Ts):Pk × Ts :=
 let s1:=(s.rd 1).need (decide (s.num 1≤1))
 ({zk 2 with present:=decide (s.num 1=1),code:=s1.num 1,props:=(s1.rd 1).sec v},(s1.rd 1).rdS v)
def jH7 (v:Int) (f:Nat) (s:Ts):Pk × Ts :=
 let s1:=s.rdT;let s2:=if (f / 2 &&& 3)=0 then s1 else s1.rd 2
 ({zk 3 with dup:=!decide (f &&& 8=0),qos:=f / 2 &&& 3,retain:=!decide (f &&& 1=0),topic:=s.bin,id:=if (f / 2 &&& 3)=0 then 0 else s1.num 2,props:=s2.sec v,load:=(s2.rdS v).rest},(s2.rdS v).rdR)
def j2k (v k:Int) (f:Nat) (s:Ts):Pk × Ts :=
 if k=1 then jCm v s
 else if k=2 then j5d v s
 else if k=3 then jH7 v f s
 else if k=4∨k=5∨k=6∨k=7 then j6q v {zk k with id:=s.num 2} (s.rd 2)
 else if k=8∨k=10 then ({zk k with id:=s.num 2,props:=(s.rd 2).sec v,filters:=(j2l k ((s.rd 2).rdS v).l.length ((s.rd 2).rdS v)).1},(j2l k ((s.rd 2).rdS v).l.length ((s.rd 2).rdS v)).2)
 else if k=9∨k=11 then ({zk k with id:=s.num 2,props:=(s.rd 2).sec v,codes:=((s.rd 2).rdS v).l},((s.rd 2).rdS v).rdR)
 else if k=14∨k=15 then j6q v (zk k) s
 else (zk k,s)
structure Hd where
 kind:Int
 flags:Nat
 head:Int
 rest:Nat
def j0m (b:List UInt8):Nat × List UInt8 × Int:=rv 4 0 0 (qt 1 b 0) (qq 1 b 0)
def j21 (b:List UInt8):Int:=(j0m (b.take 5)).2.2
def j12 (b:List UInt8):Hd :=
 if j21 b=0 then ⟨((num (qb 1 (b.take 5) 0) / 16:Nat):Int),num (qb 1 (b.take 5) 0) % 16,((b.take 5).length:Int) - ((j0m (b.take 5)).2.1.length:Int),(j0m (b.take 5)).1⟩ else ⟨0,0,0,0⟩
def j5v (v:Int) (h:Hd):Bool :=
 if !(decide (v=4)||decide (v=5))||(decide (h.kind=0)||(decide (v=4)&&decide (h.kind=15))) then false
 else if h.kind=3 then true else if h.kind=6∨h.kind=8∨h.kind=10 then decide (h.flags=2) else decide (h.flags=0)
def jA1 (v:Int) (b:List UInt8):Pk × Ts:=j2k v (j12 b).kind (j12 b).flags ⟨b.drop (j12 b).head.toNat,0,false⟩
def j3j (v:Int) (b:List UInt8):Bool :=
 decide (j21 b=0)&&(decide ((b.length:Int)=(j12 b).head+(j12 b).rest)&&(j5v v (j12 b)&&((jA1 v b).2.ok&&decide ((jA1 v b).2.l.length=0))))
def j7m (v:Int) (b:List UInt8):Pk:=if j3j v b=true then (jA1 v b).1 else zk 0
def jI6 (v:Int) (b:List UInt8):Int:=if v=4∨v=5 then (if j3j v b=true then (if qj v (j7m v b)=true then 0 else 4) else 3) else 1
def jN4 (v:Int) (b:List UInt8):Pk:=if jI6 v b=0 then j7m v b else zk 0
open Go.RowKit
set_option linter.unusedVariables false
set_option linter.unusedSimpArgs false
set_option maxRecDepth 100000
theorem ne9 {a b:Nat} (h:Nat.beq a b=false):a≠b:=λe=>by rw[e,Nat.beq_refl]at h;cases h
section
variable {w w0 W W':World} {T T':Nat→Prop} {r t q b:Nat} {S S':Ts} {M M':List Bk} {ty:TypeId} {c ct cq:Array Value} {B:ByteArray} {l:List UInt8} {e:Int}
def Re (W W':World):List Bk→List Bk→Prop
 | [],[]=>True
 | x :: l,y :: l'=>(y.b=x.b∧(Blk W x.b x.t x.c→Blk W' y.b y.t y.c))∧Re W W' l l'
 | _,_=>False
theorem Hps.re:∀ {M M':List Bk},Hps w0 W M→Re W W' M M'→Hps w0 W' M'∧∀ y∈M',∃ x∈M,x.b=y.b
 | [],[],_,_=>⟨trivial,by simp⟩
 | x :: l,y :: l',h,hr=>by
  obtain ⟨h1,h2⟩:=Hps.re h.2.2.2 hr.2;refine ⟨⟨hr.1.2 h.1,hr.1.1▸h.2.1,λz hz=>?_,h1⟩,λz hz=>?_⟩
  ·obtain ⟨x',hx',e⟩:=h2 z hz
   rw[← e,hr.1.1];exact h.2.2.1 x' hx'
  ·rcases List.mem_cons.1 hz with rfl|hz
   ·exact ⟨x,List.mem_cons_self ..,hr.1.1.symm⟩
   ·obtain ⟨x',hx',e⟩:=h2 z hz
    exact ⟨x',List.mem_cons_of_mem _ hx',e⟩
theorem Hp.re (H:Hp w0 W M) (hk:Kept T W W') (hT:∀ i,T i→w0.heap.size≤i) (h:Re W W' M M'):Hp w0 W' M' :=
 ⟨H.k.then hk (λi hi e=>by have:=hT i e;omega),(H.b.re h).1⟩
def NoU (c:Array Value):Prop:=∀ i n:Nat,c[i]?≠some (.int .u32 n)
theorem jEh {p:Pr} {L:List Pr}:(PC (p :: L))[1]?=some (.int .u32 p.n):=rfl
theorem Row.propK {a:Option Addr} {L:List Pr} (h:Row W a (PC L)) (hk:Kept T W W') (hT:∀ i,T i→∃ ty c,Blk W i ty c∧NoU c):Row W' a (PC L):=by
 cases L with
 | nil=>exact .inl rfl
 | cons p L =>
  refine h.kept hk λb off ha hne hb=>?_
  obtain ⟨ty,c,hB,hn⟩:=hT b hb;rcases h with h|⟨b2,off2,ha2,hlt,hc⟩
  ·cases h
  ·rw[ha]at ha2
   injection ha2 with ha2;injection ha2 with e1 e2 _;subst e1 e2
   have:=hc 1 _ jEh
   rw[hB.cell]at this;exact hn _ _ this
theorem jOy (hB:Blk W b ty c) (hn:NoU c):∀ i,One b i→∃ ty c,Blk W i ty c∧NoU c:=by
 intro i hi;obtain rfl:i=b:=hi;exact ⟨_,_,hB,hn⟩
end
section
variable {P:Program} {ops:Array Oper} {Q:Exit→Act→World→Prop} {a:Act} {w w0:World} {rest:List Oper} {N n:Nat} {L:List (Nat × Value)} {v:Value} {ty:TypeId} {ps:String} {af:Array Edge} {op:Op} {α:Type}
theorem jGs (M':α→List Bk) (R:α→Value→World→Prop) {f:Nat} {args:Array Value} (F:Fr a N L) (hn:Nat.blt n N=true) (h:(execOp a.eval ⟨some n,op,ty,ps,af,none⟩).run P w=.ok (.enter f args) w)
  (hc:Calls P f args w λe w'=>∃ v x,e=.returned v∧R x v w') (hH:∀ x v w',R x v w'→Hp w0 w' (M' x)) (k:∀ (x:α) (v:Value) (w':World) (a':Act),R x v w'→Hp w0 w' (M' x)→Fr a' N ((n,v) :: L)→wpList P ops Q rest a' w'):wpList P ops Q (⟨some n,op,ty,ps,af,none⟩ :: rest) a w:=by
 unfold wpList;rw[if_pos (j2u rfl)];left;unfold Oper.wp;rw[h];refine hc.mono ?_;rintro e w' ⟨v,x,rfl,hR⟩;exact k x v w' _ hR (hH x v w' hR) (F.put hn v)
variable {md:Region.Mode} {S:World→Prop} {fuel:Nat} {listed:Array Bool} {i:Nat}
theorem jGq (M':α→List Bk) (R:α→Value→World→Prop) {f:Nat} {args:Array Value} (F:Fr a N L) (hn:Nat.blt n N=true) (hi:ops[i]?=some ⟨some n,op,ty,ps,af,none⟩)
  (h:(execOp a.eval ⟨some n,op,ty,ps,af,none⟩).run P w=.ok (.enter f args) w) (hc:Calls P f args w λe w'=>∃ v x,e=.returned v∧R x v w') (hH:∀ x v w',R x v w'→Hp w0 w' (M' x)) (hS:∀ x w',Hp w0 w' (M' x)→S w')
  (k:∀ (x:α) (v:Value) (w':World) (a':Act),R x v w'→Hp w0 w' (M' x)→Fr a' N ((n,v) :: L)→wpAnyH P md ops Q S fuel (listed.setIfInBounds i true) a' w') :
  wpOp P ops Q i (λa' w'=>S w'∧wpAnyH P md ops Q S fuel (listed.setIfInBounds i true) a' w') a w:=by
 unfold wpOp;simp only[hi];rw[if_pos (j2u rfl)];left;unfold Oper.wp;rw[h];refine hc.mono ?_;rintro e w' ⟨v,x,rfl,hR⟩;exact ⟨hS x w' (hH x v w' hR),k x v w' _ hR (hH x v w' hR) (F.put hn v)⟩
end
section
variable {w W:World} {T:Nat→Prop} {r:Nat} {S:Ts} {B:ByteArray}
end
structure Emp (W:World) (x:Pk) (s:Sl):Prop where
 w:x.willProps=[]
 p:Row W s.pa (PC x.props)
 nf:x.filters=[]
 nc:x.codes=[]
 sc:s.ca=none∧s.cc=0
end Go.Proofs.YtkochkhfbhjicaaGreatDoor
namespace Go.Proofs.YtkochkhfbhjicaaGreatDoor
open Go.RowKit
set_option linter.unusedVariables false
set_option linter.unusedSimpArgs false
set_option maxRecDepth 100000
open Go.RowKit
set_option linter.unusedVariables false
set_option linter.unusedSimpArgs false
set_option maxRecDepth 100000
open Go.RowKit
set_option linter.unusedVariables false
set_option linter.unusedSimpArgs false
set_option maxRecDepth 100000
end Go.Proofs.YtkochkhfbhjicaaGreatDoor
