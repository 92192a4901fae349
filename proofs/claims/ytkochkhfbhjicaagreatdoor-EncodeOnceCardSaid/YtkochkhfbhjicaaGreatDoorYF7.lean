import Derived.Test.YtkochkhfbhjicaaGreatDoorYF4
import Derived.Test.YtkochkhfbhjicaaGreatDoorYF5
import Derived.Lib.ConvBytes
import Derived.Test.YtkochkhfbhjicaaGreatDoorYFN
import Derived.Deep.RegionHeld3
namespace Go.Proofs.YtkochkhfbhjicaaGreatDoor
open Go.RowKit
attribute [local go_sem] Oper.semAt_some
set_option linter.unusedVariables false
set_option linter.unusedSimpArgs false
set_option maxRecDepth 100000
def j38 (l:List UInt8) (err:Int):List UInt8:=qb (rv 4 0 0 l err).1 (rv 4 0 0 l err).2.1 (rv 4 0 0 l err).2.2
def j37 (l:List UInt8) (err:Int):List UInt8:=qt (rv 4 0 0 l err).1 (rv 4 0 0 l err).2.1 (rv 4 0 0 l err).2.2
def j36 (l:List UInt8) (err:Int):Int:=qq (rv 4 0 0 l err).1 (rv 4 0 0 l err).2.1 (rv 4 0 0 l err).2.2
def jDd (l:List UInt8) (err:Int):List Pr × Bool :=
 if j36 l err=0 then (if (j5g (j38 l err)).2 then (jX (j5g (j38 l err)).1,true) else ([],false)) else ([],false)
def TI (p q:Nat) (wL:World) (B:Nat) (pre:List (Pr × Bool)) (W:World):Prop :=
 ∃ v,(∀ x∈pre,x.2=true)∧Blk W p 33 #[.slice none 0 0]∧Blk W (p+1) 4 #[.bool false]∧Blk W q 33 #[v] ∧
  W.ownsRow B 82 4 v pre.length (PC (pre.map Prod.fst))∧Kept (One q) wL W
theorem TI.next {p q z B:Nat} {wL W W4:World} {pre:List (Pr × Bool)} {x:Pr} {v v4:Value} {o:Obj} (hp:p+1<z) (hq:q<z) (hpq:p+1<q) (hzB:z+2≤B) (hB:B≤W.heap.size) (hall:∀ y∈pre,y.2=true)
  {u0:Value} (b1:Blk W p 33 #[.slice none 0 0]) (b2:Blk W (p+1) 4 #[.bool false]) (b3:Blk W q 33 #[u0]) (ho:W.ownsRow B 82 4 v pre.length (PC (pre.map Prod.fst))) (hw:Kept (One q) wL W) (hLz:wL.heap.size≤z)
  (hg:(W.alloc o).grownBy W4 v.ownBlock) (ho4:W4.ownsRow B 82 4 v4 (pre.length+1) (PC (pre.map Prod.fst)++PC [x])) :
  Holds2 z B W (W4.setCell ⟨q,0,none⟩ v4)∧TI p q wL B (pre++[(x,true)]) (W4.setCell ⟨q,0,none⟩ v4):=by
 have hkg:Kept (λk=>k=q∨v.ownBlock=some k) W W4:=((Kept.refl _ W).alloc o).grown hg (λk e=>.inr (.inr e));have hk:Kept (λk=>k=q∨v.ownBlock=some k) W (W4.setCell ⟨q,0,none⟩ v4):=hkg.setCell (p:=⟨q,0,none⟩) (.inr (.inl rfl)) v4;have hne:∀ k,k<z→v.ownBlock≠some k:=λk hk e=>by have:=(ho.lt k e).1;omega
 have up:∀ {g t cs},g<z→Blk W g t cs→Blk W4 g t cs:=λhg4 hb=>(hb.alloc o).grown hg (hne _ hg4)
 refine ⟨hk.holds2 hB (λk h1 h2 hS=>?_) (λk cs fz hS hx=>?_),v4,?_,(up (by omega) b1).far (p:=⟨q,0,none⟩) (by simp;omega) v4,(up (by omega) b2).far (p:=⟨q,0,none⟩) (by simp;omega) v4,?_,?_,?_⟩
 ·rcases hS with h|h
  ·omega
  ·have:=(ho.lt k h).1;omega
 ·rcases hS with h|h
  ·subst h;unfold Blk at b3;rw[b3]at hx;injection hx with hx;injection hx with _ h2 _;exact absurd h2 (by decide)
  ·rcases ho.2 with ⟨hv,_⟩|⟨g,cap,cur,hv,_,hgg,_⟩
   ·subst hv;cases h
   ·subst hv
    injection h with h;subst h;rw[hgg]at hx;injection hx with hx;injection hx with _ h2 _;exact absurd h2 (by decide)
 ·intro y hy
  rcases List.mem_append.1 hy with h|h
  ·exact hall y h
  ·rw[List.mem_singleton.1 h]
 ·have:=(up hq b3).set_ 0 v4
  simpa using this
 ·have h5:=jH3 ho4 ((Kept.refl (One q) W4).setCell (p:=⟨q,0,none⟩) (.inr rfl) v4) (λg hg4 e=>by have:g=q:=e;omega)
  rw[List.length_append,List.map_append,vy];exact h5
 ·exact hw.then hk λi hi hS=>by
   rcases hS with h|h
   ·exact h
   ·have:=(ho.lt i h).1;omega
end Go.Proofs.YtkochkhfbhjicaaGreatDoor
namespace Go.Proofs.YtkochkhfbhjicaaGreatDoor
open Go.RowKit
set_option linter.unusedVariables false
set_option linter.unusedSimpArgs false
set_option maxRecDepth 100000
end Go.Proofs.YtkochkhfbhjicaaGreatDoor
