import Derived.Test.YtkochkhfbhjicaaGreatDoorYF3
import Derived.Deep.DeepCutAuto
import Derived.Deep.CutBlock
import Derived.Deep.RegionHeld3
import Derived.Test.YtkochkhfbhjicaaGreatDoorBase
import Derived.RangeFuncNested
import Derived.RangeFuncBound
import Derived.RangeFuncCalls
import Derived.RangeFuncLeaves
import Derived.Shelf.Abstract
import Derived.Shelf.RegionOpen
import Derived.OwnWalkIn
import Derived.TacticsInMore
import Derived.LoopNIn
import Derived.LoopIn
namespace Go.Proofs.YtkochkhfbhjicaaGreatDoor
open Go.RowKit
set_option linter.unusedVariables false
set_option linter.unusedSimpArgs false
set_option maxRecDepth 100000
def j0p (t id:Nat) (l:List UInt8) (e:Int):Pr × List UInt8 × Int :=
 if t=1 then (⟨id,num (qb 1 l e),⟨#[]⟩,⟨#[]⟩⟩,qt 1 l e,qq 1 l e)
 else if t=2 then (⟨id,num (qb 2 l e),⟨#[]⟩,⟨#[]⟩⟩,qt 2 l e,qq 2 l e)
 else if t=3 then (⟨id,num (qb 4 l e),⟨#[]⟩,⟨#[]⟩⟩,qt 4 l e,qq 4 l e)
 else if t=4 then (⟨id,(rv 4 0 0 l e).1,⟨#[]⟩,⟨#[]⟩⟩,(rv 4 0 0 l e).2.1,(rv 4 0 0 l e).2.2)
 else if t=5 then (⟨id,0,⟨(zC l e).toArray⟩,⟨#[]⟩⟩,j55 l e,j6z l e)
 else if t=6 then (⟨id,0,⟨(zC l e).toArray⟩,⟨#[]⟩⟩,j55 l e,j6z l e)
 else if t=7 then (⟨id,0,⟨(zC l e).toArray⟩,⟨(zC (j55 l e) (j6z l e)).toArray⟩⟩,j55 (j55 l e) (j6z l e),j6z (j55 l e) (j6z l e))
 else (⟨id,0,⟨#[]⟩,⟨#[]⟩⟩,l,e)
def xq (l:List UInt8) (e:Int):Pr × List UInt8 × Int:=j0p (jl (num (qb 1 l e))) (num (qb 1 l e)) (qt 1 l e) (qq 1 l e)
def j43 (l:List UInt8):Bool:=decide ((xq l 0).2.2=0)&&(xq l 0).1.ok
theorem Kept.set4 {S:Nat→Prop} {w w':World} (h:Kept S w w') {g:Nat} (hg:w.heap.size≤g) (u0 u1 u2 u3:Value) :
  Kept S w ((((w'.setCell ⟨g,0,none⟩ u0).setCell ⟨g,1,none⟩ u1).setCell ⟨g,2,none⟩ u2).setCell ⟨g,3,none⟩ u3) :=
 (((h.setCell (p:=⟨g,0,none⟩) (.inl hg) u0).setCell (p:=⟨g,1,none⟩) (.inl hg) u1).setCell (p:=⟨g,2,none⟩) (.inl hg) u2).setCell (p:=⟨g,3,none⟩) (.inl hg) u3
structure Pr.sm (p:Pr):Prop where
 hid:p.id<256
 hn:p.n<4294967296
 ha:p.a.size≤65535
 hb:p.b.size≤65535
theorem jK9 (t id:Nat) (l:List UInt8) (e:Int):(j0p t id l e).1.id=id:=by
 unfold j0p
 repeat' split
 all_goals rfl
theorem jEc (l:List UInt8) (h:jl (num (qb 1 l 0))=0):j43 l=false:=by
 unfold j43
 have h1:(xq l 0).1.ok=false:=by
  unfold Pr.ok xw;rw[show (xq l 0).1.id=num (qb 1 l 0) from jK9 _ _ _ _,h]
  rfl
 rw[h1,Bool.and_false]
theorem zf (n:Int) (l:List UInt8) (e:Int):qt n l e <:+ l:=by
 unfold qt
 split
 ·split
  ·exact List.drop_suffix _ _
  ·exact List.nil_suffix
 ·exact List.suffix_refl _
theorem j56 (l:List UInt8) (e:Int):j55 l e <:+ l:=(zf _ _ _).trans (zf _ _ _)
theorem jHc:∀ (f i n:Nat) (l:List UInt8) (e:Int),(rv f i n l e).2.1 <:+ l
 | 0,_,_,_,_=>List.nil_suffix
 | f+1,i,n,l,e=>by
  rw[rv]
  split
  ·exact zf _ _ _
  ·split
   ·exact (jHc f _ _ _ _).trans (zf _ _ _)
   ·split
    ·exact List.nil_suffix
    ·exact zf _ _ _
theorem jHq (t id:Nat) (l:List UInt8) (e:Int):(j0p t id l e).2.1 <:+ l:=by
 unfold j0p
 repeat' split
 all_goals dsimp only
 all_goals first|exact zf _ _ _|exact jHc _ _ _ _ _|exact j56 _ _|exact (j56 _ _).trans (j56 _ _)|exact List.suffix_refl _
theorem jEd (l:List UInt8):(xq l 0).2.1 <:+ qt 1 l 0:=jHq _ _ _ _
theorem jAe {l:List UInt8} (h:j43 l=true):l≠[]:=by
 rintro rfl;rw[jEc [] (by decide)]at h;cases h
theorem jD3 {l:List UInt8} (h:j43 l=true):(xq l 0).2.1.length<l.length:=by
 have h1:=(jEd l).length_le;have hne:=jAe h;cases l with
 | nil=>exact absurd rfl hne
 | cons c t =>
  rw[(vY c t).2.1]at h1;simp only[List.length_cons];omega
def j3v:Nat→List UInt8→List Pr × Bool
 | 0,_=>([],true)
 | f+1,l=>if l.isEmpty then ([],true) else if j43 l then ((xq l 0).1 :: (j3v f (xq l 0).2.1).1,(j3v f (xq l 0).2.1).2) else ([],false)
theorem j26:∀ (f g:Nat) (l:List UInt8),l.length≤f→l.length≤g→j3v f l=j3v g l
 | 0,0,_,_,_=>rfl
 | 0,g+1,l,h,_=>by
  have:l=[]:=List.length_eq_zero_iff.1 (by omega)
  subst this
  rfl
 | f+1,0,l,_,h=>by
  have:l=[]:=List.length_eq_zero_iff.1 (by omega)
  subst this
  rfl
 | f+1,g+1,l,h1,h2=>by
  rw[j3v,j3v]
  split
  ·rfl
  ·split
   ·rename_i hk
    have hlt:=jD3 hk;rw[j26 f g _ (by omega) (by omega)]
   ·rfl
def j5g (l:List UInt8):List Pr × Bool:=j3v l.length l
theorem jB9 {l:List UInt8} (h:j43 l=true):j5g l=((xq l 0).1 :: (j5g (xq l 0).2.1).1,(j5g (xq l 0).2.1).2):=by
 have hlt:=jD3 h;have hne:=jAe h;unfold j5g;rw[j26 l.length (l.length+1) l (Nat.le_refl _) (by omega),j3v,if_neg (by simpa using hne),if_pos h,j26 l.length (xq l 0).2.1.length _ (by omega) (Nat.le_refl _)]
structure Holds2 (a b:Nat) (w w':World):Prop where
 size:w.heap.size≤w'.heap.size
 same:∀ k,a≤k→k<b→w'.heap[k]?=w.heap[k]?
 bytes:∀ (k:Nat) (cs:Array Value) (fz:Nat × Nat),w.heap[k]?=some (Obj.cells cs 5 fz)→w'.heap[k]?=w.heap[k]?
theorem Holds2.refl (a b:Nat) (w:World):Holds2 a b w w:=⟨Nat.le_refl _,λ_ _ _=>rfl,λ_ _ _ _=>rfl⟩
theorem Holds2.trans {a b:Nat} {w w' w'':World} (h:Holds2 a b w w') (k:Holds2 a b w' w''):Holds2 a b w w'' :=
 ⟨Nat.le_trans h.size k.size,λi h1 h2=>(k.same i h1 h2).trans (h.same i h1 h2),λi cs fz hc=>(k.bytes i cs fz ((h.bytes i cs fz hc).trans hc)).trans (h.bytes i cs fz hc)⟩
theorem Holds2.mono {a a' b:Nat} {w w':World} (h:Holds2 a b w w') (ha:a≤a'):Holds2 a' b w w':=⟨h.size,λi h1 h2=>h.same i (by omega) h2,h.bytes⟩
theorem Kept.holds2 {S:Nat→Prop} {a b:Nat} {w w':World} (h:Kept S w w') (hb:b≤w.heap.size) (hs:∀ k,a≤k→k<b→¬ S k) (hu:∀ (k:Nat) (cs:Array Value) (fz:Nat × Nat),S k→w.heap[k]?≠some (Obj.cells cs 5 fz)):Holds2 a b w w' :=
 ⟨h.size,λk h1 h2=>h.block k (by omega) (hs k h1 h2),λk cs fz hc=>h.block k (Array.getElem?_eq_some_iff.1 hc).1 (λhS=>hu k cs fz hS hc)⟩
variable {F:Fence} {n:Nat} {P:Program}
end Go.Proofs.YtkochkhfbhjicaaGreatDoor
namespace Go.Proofs.YtkochkhfbhjicaaGreatDoor
open Go.RowKit
attribute [local go_sem] Oper.semAt_some
set_option linter.unusedVariables false
set_option linter.unusedSimpArgs false
set_option maxRecDepth 100000
end Go.Proofs.YtkochkhfbhjicaaGreatDoor
namespace Go.Proofs.YtkochkhfbhjicaaGreatDoor
open Go.RowKit
set_option linter.unusedVariables false
set_option linter.unusedSimpArgs false
attribute [local go_sem] Oper.semAt_some
set_option maxRecDepth 100000
def LI (m:Nat) (w:World) (B:Nat) (pre:List (Pr × Bool)) (W:World):Prop :=
 ∃ v,(∀ x∈pre,x.2=true)∧pre.length≤m∧Blk W w.heap.size 3 #[.int .i64 m]∧Blk W (w.heap.size+1) 23 #[.slice none 0 0]∧Blk W (w.heap.size+2) 4 #[.bool false]∧Blk W (w.heap.size+3) 23 #[v] ∧
  W.ownsRow B 46 4 v pre.length (PC (pre.map Prod.fst))∧Kept No w W
def LS (w:World) (v:Value):Nat→Prop:=λk=>k=w.heap.size+1∨k=w.heap.size+2∨k=w.heap.size+3∨v.ownBlock=some k
theorem LS.holds {w W W':World} {v:Value} {z B n:Nat} {xs:List Value} (hz:w.heap.size+4≤z) (hB:B≤W.heap.size) (hk:Kept (LS w v) W W') (ho:W.ownsRow B 46 4 v n xs)
  {u1 u2 u3:Array Value} (b1:Blk W (w.heap.size+1) 23 u1) (b2:Blk W (w.heap.size+2) 4 u2) (b3:Blk W (w.heap.size+3) 23 u3):Holds2 z B W W':=by
 refine hk.holds2 hB (λk h1 h2 hS=>?_) (λk cs fz hS hx=>?_)
 ·rcases hS with h|h|h|h
  ·omega
  ·omega
  ·omega
  ·have:=(ho.lt k h).1;omega
 ·rcases hS with h|h|h|h
  ·subst h;unfold Blk at b1;rw[b1]at hx;injection hx with hx;injection hx with _ h2 _;exact absurd h2 (by decide)
  ·subst h;unfold Blk at b2;rw[b2]at hx;injection hx with hx;injection hx with _ h2 _;exact absurd h2 (by decide)
  ·subst h;unfold Blk at b3;rw[b3]at hx;injection hx with hx;injection hx with _ h2 _;exact absurd h2 (by decide)
  ·rcases ho.2 with ⟨hv,_⟩|⟨g,cap,cur,hv,_,hg,_⟩
   ·subst hv;cases h
   ·subst hv
    injection h with h;subst h;rw[hg]at hx;injection hx with hx;injection hx with _ h2 _;exact absurd h2 (by decide)
theorem LS.no {w W W':World} {v:Value} {n z:Nat} {xs:List Value} (hw:Kept No w W) (hk:Kept (LS w v) W W') (ho:W.ownsRow z 46 4 v n xs) (hz:w.heap.size≤z):Kept No w W' :=
 hw.then hk λi hi hS=>by
  rcases hS with h|h|h|h
  ·omega
  ·omega
  ·omega
  ·have:=(ho.lt i h).1;omega
theorem jH3 {w w':World} {B size n:Nat} {e:TypeId} {v:Value} {xs:List Value} {S:Nat→Prop} (h:w.ownsRow B e size v n xs) (hk:Kept S w w') (hS:∀ g,B≤g→¬ S g):w'.ownsRow B e size v n xs:=by
 refine ⟨h.1,?_⟩;rcases h.2 with h2|⟨g,cap,cur,q1,q2,q3,q4⟩
 ·exact .inl h2
 ·exact .inr ⟨g,cap,cur,q1,q2,(hk.block g (Array.getElem?_eq_some_iff.1 q3).1 (hS g q2)).trans q3,q4⟩
theorem LI.next {m z B:Nat} {w W W2 W4:World} {pre:List (Pr × Bool)} {x:Pr} {v v4:Value} {o:Obj} (hz:w.heap.size+4≤z) (hzB:z+2≤B) (hB:B≤W.heap.size) (hall:∀ y∈pre,y.2=true) (hpm:pre.length≤m) (hx:pre.length<m)
  {u0:Value} (b0:Blk W w.heap.size 3 #[.int .i64 m]) (b1:Blk W (w.heap.size+1) 23 #[.slice none 0 0]) (b2:Blk W (w.heap.size+2) 4 #[.bool false]) (b3:Blk W (w.heap.size+3) 23 #[u0]) (ho:W.ownsRow B 46 4 v pre.length (PC (pre.map Prod.fst))) (hw:Kept No w W)
  (hk2:Kept No W W2) (hg:(W2.alloc o).grownBy W4 v.ownBlock) (ho4:W4.ownsRow B 46 4 v4 (pre.length+1) (PC (pre.map Prod.fst)++PC [x])) :
  Holds2 z B W (W4.setCell ⟨w.heap.size+1+1+1,0,none⟩ v4)∧LI m w B (pre++[(x,true)]) (W4.setCell ⟨w.heap.size+1+1+1,0,none⟩ v4):=by
 have hkg:Kept (LS w v) W W4:=(hk2.any.alloc o).grown hg (λk e=>.inr (.inr (.inr (.inr e))));have hk:Kept (LS w v) W (W4.setCell ⟨w.heap.size+1+1+1,0,none⟩ v4):=hkg.setCell (p:=⟨w.heap.size+1+1+1,0,none⟩) (.inr (.inr (.inr (.inl rfl)))) v4;have hne:∀ k,k<w.heap.size+4→v.ownBlock≠some k:=λk hk e=>by have:=(ho.lt k e).1;omega
 have up:∀ {g t cs},g<w.heap.size+4→Blk W g t cs→Blk W4 g t cs:=λhg4 hb=>((hb.kept hk2 (λf=>f)).alloc o).grown hg (hne _ hg4)
 refine ⟨LS.holds hz hB hk ho b1 b2 b3,v4,?_,by simp;omega,(up (by omega) b0).far (p:=⟨w.heap.size+1+1+1,0,none⟩) (by simp;omega) v4,(up (by omega) b1).far (p:=⟨w.heap.size+1+1+1,0,none⟩) (by simp) v4,(up (by omega) b2).far (p:=⟨w.heap.size+1+1+1,0,none⟩) (by simp) v4,?_,?_,LS.no hw hk ho (by omega)⟩
 ·intro y hy
  rcases List.mem_append.1 hy with h|h
  ·exact hall y h
  ·rw[List.mem_singleton.1 h]
 ·have:=(up (by omega) b3).set_ 0 v4
  simpa using this
 ·have h5:=jH3 ho4 ((Kept.refl (One (w.heap.size+3)) W4).setCell (p:=⟨w.heap.size+1+1+1,0,none⟩) (.inr rfl) v4) (λg hg4 e=>by have:g=w.heap.size+3:=e;omega)
  rw[List.length_append,List.map_append,vy];exact h5
end Go.Proofs.YtkochkhfbhjicaaGreatDoor
