import Derived.Test.YtofjhopecfmbcaaGreatDoorYF4
import Derived.Test.YtofjhopecfmbcaaGreatDoorYF5
import Derived.Lib.ConvBytes
import Derived.Test.YtofjhopecfmbcaaGreatDoorYFN
import Derived.Deep.RegionHeld3
namespace Go.Proofs.YtofjhopecfmbcaaGreatDoor
open Go.RowKit
attribute [local go_sem] Oper.semAt_some
set_option linter.unusedVariables false
set_option linter.unusedSimpArgs false
set_option maxRecDepth 100000
def takeSec (l:List UInt8) (err:Int):List UInt8:=taken (rv 4 0 0 l err).1 (rv 4 0 0 l err).2.1 (rv 4 0 0 l err).2.2
def takeLeft (l:List UInt8) (err:Int):List UInt8:=leftL (rv 4 0 0 l err).1 (rv 4 0 0 l err).2.1 (rv 4 0 0 l err).2.2
def takeErr (l:List UInt8) (err:Int):Int:=leftE (rv 4 0 0 l err).1 (rv 4 0 0 l err).2.1 (rv 4 0 0 l err).2.2
def takeR (l:List UInt8) (err:Int):List Pr × Bool :=
 if takeErr l err=0 then (if (eachL (takeSec l err)).2 then (sortL (eachL (takeSec l err)).1,true) else ([],false)) else ([],false)
def TakeOwn (R:List Pr × Bool) (l2:List UInt8) (e2:Int) (w:World) (r:Nat) (e:Ending) (w':World):Prop :=
 ∃ a c,e=.returned (.tuple #[.slice a R.1.length c,.bool R.2])∧w'.ownsRow w.heap.size 95 4 (.slice a R.1.length c) R.1.length (PC R.1)∧After w w' r l2 e2
theorem own_base {w:World} {B B' e k n:Nat} {v:Value} {xs:List Value} (h:w.ownsRow B' e k v n xs) (hb:B≤B'):w.ownsRow B e k v n xs:=⟨h.1,h.2.imp id fun ⟨g,cap,cur,h1,h2,h3⟩=>⟨g,cap,cur,h1,Nat.le_trans hb h2,h3⟩⟩
def SortAt (X:List Pr):Prop:=∀ (a:Option Addr) (c:Nat) (wx:World),Row wx a (PC X)→(a=none→X.length=0∧c=0)→Calls Tryz.prog 159 #[.slice a X.length c] wx (OwnP 95 wx (sortL X))
structure RdS (w0 w:World) (r:Nat) (l:List UInt8) (e:Int):Prop where
 rdr:Rdr w r l e
 stay:Stay w0 w r
theorem RdS.kept {w0 w w':World} {S:Nat→Prop} {r:Nat} {l:List UInt8} {err:Int} (h:RdS w0 w r l err) (hk:Kept S w w') (hr:¬ S r) (hs:∀ b,S b→b < w.heap.size→NoByte w b):RdS w0 w' r l err:=⟨h.rdr.kept hk hr hs,h.stay.trans (.same (hk.cell (p:=⟨r,0,none⟩) h.rdr.lt hr))⟩
theorem RdS.keptTyp {w0 w w':World} {S:Nat→Prop} {r:Nat} {l:List UInt8} {err:Int} (h:RdS w0 w r l err) (hk:Kept S w w') (hr:¬ S r) (hs:∀ b,S b→∀ cs fz,w.heap[b]?≠some (.cells cs 5 fz)):RdS w0 w' r l err:=⟨h.rdr.keptTyp hk hr hs,h.stay.trans (.same (hk.cell (p:=⟨r,0,none⟩) h.rdr.lt hr))⟩
theorem RdS.keptNo {w0 w w':World} {r:Nat} {l:List UInt8} {err:Int} (h:RdS w0 w r l err) (hk:Kept No w w'):RdS w0 w' r l err:=h.kept hk (fun f=>f) (fun _ f=>f.elim)
def Twin (p:Nat):Nat→Prop:=fun k=>k=p∨k=p+1
theorem bytes_world (w:World) (l:List UInt8):Kept No w (Lib.bytesWorld w 5 ⟨l.toArray⟩)∧Row (Lib.bytesWorld w 5 ⟨l.toArray⟩) (some ⟨w.heap.size,0,none⟩) (B8 l):=by
 refine ⟨⟨rfl,rfl,rfl,by rw[Lib.bytesWorld_size];omega,fun k hk _=>Lib.bytesWorld_at_old w _ _ k hk⟩,.of_cells fun j u hu=>?_⟩
 have hj:j < l.length:=by
  have:=(List.getElem?_eq_some_iff.1 hu).1
  simpa using this
 rw[B8_get l j hj]at hu;have h1:=Lib.bytesWorld_cell w 5 ⟨l.toArray⟩ j (by rw[ba_size];exact hj);have e:(⟨w.heap.size,0,none⟩:Addr).add j=⟨w.heap.size,j,none⟩:=by simp[Addr.add];intro h;exact h.symm
 rw[e,h1,← hu];simp[List.getD,List.getElem?_eq_getElem hj]
theorem Tabs.keptS {w w1 w2:World} {S:Nat→Prop} (h0:Tabs w) (h:Tabs w1) (hk:Kept S w1 w2) (hS:∀ k,S k→w.heap.size≤k):Tabs w2:=by
  have n1:¬ S (Tryz.laysValid_ren.g 3):=fun e=>by have:=hS _ e;have h9:Tryz.laysValid_ren.g 3 < w.heap.size:=cell_lt (h0.1 0 (by decide));omega
  have n2:¬ S (Tryz.laysValid_ren.g 4):=fun e=>by have:=hS _ e;have h9:Tryz.laysValid_ren.g 4 < w.heap.size:=cell_lt (h0.2 0 (by decide)).1;omega
  exact ⟨fun c hc=>(hk.cell (p:=⟨_,c,none⟩) (cell_lt (h.1 c hc)) n1).trans (h.1 c hc),
   fun i hi=>⟨(hk.cell (p:=⟨_,2 * i,none⟩) (cell_lt (h.2 i hi).1) n2).trans (h.2 i hi).1,(hk.cell (p:=⟨_,2 * i+1,none⟩) (cell_lt (h.2 i hi).2) n2).trans (h.2 i hi).2⟩⟩
def TI (p q:Nat) (wL:World) (B:Nat) (pre:List (Pr × Bool)) (W:World):Prop :=
 ∃ v,(∀ x∈pre,x.2=true)∧Blk W p 58 #[.slice none 0 0]∧Blk W (p+1) 4 #[.bool false]∧Blk W q 58 #[v] ∧
  W.ownsRow B 95 4 v pre.length (PC (pre.map Prod.fst))∧Kept (One q) wL W
def TX (p q:Nat) (wL:World) (c:Code) (pre:List (Pr × Bool)) (W:World):Prop :=
 c=.ret∧(∃ d x,pre=d++[x]∧x.2=false)∧Blk W p 58 #[.slice none 0 0]∧Blk W (p+1) 4 #[.bool false]∧Kept (fun k=>Twin p k∨k=q) wL W
theorem TI.abides {p q:Nat} {wL:World} {B z:Nat} {pre:List (Pr × Bool)} {A A':World} (hp:p+1 < z) (hq:q < z) (hzL:wL.heap.size≤z) (h:TI p q wL B pre A) (hk:Kept (Mid z B) A A'):TI p q wL B pre A':=by
 obtain ⟨v,h1,b1,b2,b3,ho,hw⟩:=h;have n:∀ k,k < z→¬ Mid z B k:=fun k hk hm=>by have:=hm.1;omega
 exact ⟨v,h1,b1.kept hk (n _ (by omega)),b2.kept hk (n _ (by omega)),b3.kept hk (n _ hq),own_mid ho hk,hw.then hk fun i hi hm=>by have:=hm.1;omega⟩
theorem TX.abides {p q:Nat} {wL:World} {z:Nat} {c:Code} {pre:List (Pr × Bool)} {A A':World} (hp:p+1 < z) (hq:q < z) (hzL:wL.heap.size≤z) (h:TX p q wL c pre A) (hk:Kept (Mid z (z+2)) A A'):TX p q wL c pre A':=by
 obtain ⟨hc,h1,b1,b2,hw⟩:=h;have n:∀ k,k < z→¬ Mid z (z+2) k:=fun k hk hm=>by have:=hm.1;omega
 exact ⟨hc,h1,b1.kept hk (n _ (by omega)),b2.kept hk (n _ (by omega)),hw.then hk fun i hi hm=>by have:=hm.1;omega⟩
theorem TX.leave {p q z B:Nat} {wL W:World} {pre:List (Pr × Bool)} {x:Pr × Bool} (hp:p+1 < z) (hq:q < z) (hzB:z+2≤B) (hB:B≤W.heap.size) (hx:x.2=false)
  {u1 u2:Value} (b1:Blk W p 58 #[u1]) (b2:Blk W (p+1) 4 #[u2]) (hw:Kept (One q) wL W) :
  Holds2 z B W ((W.setCell ⟨p,0,none⟩ (.slice none 0 0)).setCell ⟨p+1,0,none⟩ (.bool false))∧TX p q wL .ret (pre++[x]) ((W.setCell ⟨p,0,none⟩ (.slice none 0 0)).setCell ⟨p+1,0,none⟩ (.bool false)):=by
 have hk:Kept (Twin p) W ((W.setCell ⟨p,0,none⟩ (.slice none 0 0)).setCell ⟨p+1,0,none⟩ (.bool false)) :=
  ((Kept.refl _ W).setCell (p:=⟨p,0,none⟩) (.inr (.inl rfl)) _).setCell (p:=⟨p+1,0,none⟩) (.inr (.inr rfl)) _
 refine ⟨hk.holds2 hB (fun k h1 h2 hS=>by rcases hS with h|h<;>omega) (fun k cs fz hS hx=>?_),rfl,⟨pre,x,rfl,hx⟩,?_,?_,?_⟩
 ·rcases hS with h|h
  ·subst h;unfold Blk at b1;rw[b1]at hx;injection hx with hx;injection hx with _ h2 _;exact absurd h2 (by decide)
  ·subst h;unfold Blk at b2;rw[b2]at hx;injection hx with hx;injection hx with _ h2 _;exact absurd h2 (by decide)
 ·have:=(b1.set_ 0 (.slice none 0 0)).far (p:=⟨p+1,0,none⟩) (by simp) (.bool false)
  simpa using this
 ·have:=(b2.far (p:=⟨p,0,none⟩) (by simp) (.slice none 0 0)).set_ 0 (.bool false)
  simpa using this
 ·exact (hw.mono fun k _ h=>.inr h).trans (hk.mono fun k _ h=>.inl h)
theorem TI.next {p q z B:Nat} {wL W W4:World} {pre:List (Pr × Bool)} {x:Pr} {v v4:Value} {o:Obj} (hp:p+1 < z) (hq:q < z) (hpq:p+1 < q) (hzB:z+2≤B) (hB:B≤W.heap.size) (hall:∀ y∈pre,y.2=true)
  {u0:Value} (b1:Blk W p 58 #[.slice none 0 0]) (b2:Blk W (p+1) 4 #[.bool false]) (b3:Blk W q 58 #[u0]) (ho:W.ownsRow B 95 4 v pre.length (PC (pre.map Prod.fst))) (hw:Kept (One q) wL W) (hLz:wL.heap.size≤z)
  (hg:(W.alloc o).grownBy W4 v.ownBlock) (ho4:W4.ownsRow B 95 4 v4 (pre.length+1) (PC (pre.map Prod.fst)++PC [x])) :
  Holds2 z B W (W4.setCell ⟨q,0,none⟩ v4)∧TI p q wL B (pre++[(x,true)]) (W4.setCell ⟨q,0,none⟩ v4):=by
 have hkg:Kept (fun k=>k=q∨v.ownBlock=some k) W W4:=((Kept.refl _ W).alloc o).grown hg (fun k e=>.inr (.inr e));have hk:Kept (fun k=>k=q∨v.ownBlock=some k) W (W4.setCell ⟨q,0,none⟩ v4):=hkg.setCell (p:=⟨q,0,none⟩) (.inr (.inl rfl)) v4;have hne:∀ k,k < z→v.ownBlock≠some k:=fun k hk e=>by have:=(ho.lt k e).1;omega
 have up:∀ {g t cs},g < z→Blk W g t cs→Blk W4 g t cs:=fun hg4 hb=>(hb.alloc o).grown hg (hne _ hg4)
 refine ⟨hk.holds2 hB (fun k h1 h2 hS=>?_) (fun k cs fz hS hx=>?_),v4,?_,(up (by omega) b1).far (p:=⟨q,0,none⟩) (by simp;omega) v4,(up (by omega) b2).far (p:=⟨q,0,none⟩) (by simp;omega) v4,?_,?_,?_⟩
 ·rcases hS with h|h
  ·omega
  ·have:=(ho.lt k h).1;omega
 ·rcases hS with h|h
  ·subst h;unfold Blk at b3;rw[b3]at hx;injection hx with hx;injection hx with _ h2 _;exact absurd h2 (by decide)
  ·rcases ho.2 with ⟨hv,_⟩|⟨g,cap,cur,hv,_,hgg,_⟩
   ·subst hv;cases h
   ·subst hv
    injection h with h;subst h;rw[hgg]at hx;injection hx with hx;injection hx with _ h2 _;exact absurd h2 (by decide)
 ·intro y hy
  rcases List.mem_append.1 hy with h|h
  ·exact hall y h
  ·rw[List.mem_singleton.1 h]
 ·have:=(up hq b3).set_ 0 v4
  simpa using this
 ·have h5:=own_ne ho4 ((Kept.refl (One q) W4).setCell (p:=⟨q,0,none⟩) (.inr rfl) v4) (fun g hg4 e=>by have:g=q:=e;omega)
  rw[List.length_append,List.map_append,PC_append];exact h5
 ·exact hw.then hk fun i hi hS=>by
   rcases hS with h|h
   ·exact h
   ·have:=(ho.lt i h).1;omega
theorem after_end {w wL W9:World} {r p q:Nat} {l2:List UInt8} {u1 u2 u3:Array Value} (hr:RdS w wL r l2 0) (hk:Kept (One r) w wL) (hk9:Kept (fun k=>Twin p k∨k=q) wL W9) (hz:∀ k,(Twin p k∨k=q)→w.heap.size≤k∧k≠r)
  (b1:Blk wL p 58 u1) (b2:Blk wL (p+1) 4 u2) (b3:Blk wL q 58 u3):After w W9 r l2 0:=by
 have h9:=hr.keptTyp hk9 (fun hS=>(hz r hS).2 rfl) (fun b hS cs fz hx=>by
  rcases hS with (h|h)|h
  ·subst h;unfold Blk at b1;rw[b1]at hx;injection hx with hx;injection hx with _ h2 _;exact absurd h2 (by decide)
  ·subst h;unfold Blk at b2;rw[b2]at hx;injection hx with hx;injection hx with _ h2 _;exact absurd h2 (by decide)
  ·subst h;unfold Blk at b3;rw[b3]at hx;injection hx with hx;injection hx with _ h2 _;exact absurd h2 (by decide))
 exact ⟨h9.rdr,hk.then hk9 fun i hi hS=>by have:=(hz i hS).1;omega,h9.stay⟩
def TAx (r s p q Bn n z:Nat) (sec:List UInt8) (a0:Option Addr) (c0:Nat) (x:Pr × Bool) (a':Act) (W:World):Prop :=
 ∃ b,z≤b∧Blk W b 95 #[.int .u8 x.1.id,.int .u32 x.1.n,.string x.1.a,.string x.1.b]∧a'={ tmps:=#[.pointer (some ⟨r,0,none⟩),undef,.pointer (some ⟨p,0,none⟩),.pointer (some ⟨p+1,0,none⟩),.int .u32 n,.pointer (some ⟨s,0,none⟩),.pointer (some ⟨q,0,none⟩),
  .pointer (some ⟨b,0,none⟩),.bool x.2,.pointer (some ⟨r,0,none⟩),.int .u32 n,.pointer (some ⟨r,0,none⟩),.int .u32 n,.int .i64 n,.pointer (some ⟨s,0,none⟩),.pointer (some ⟨s,0,none⟩),.int .i64 0,.bool false,.pointer (some ⟨s,0,none⟩),.string ⟨sec.toArray⟩,.slice a0 sec.length c0,.func (.func 172) #[] #[.pointer (some ⟨Bn,0,none⟩)],
  .agg #[.int .u8 x.1.id,.int .u32 x.1.n,.string x.1.a,.string x.1.b],.bool x.2,undef,undef,undef,undef,undef,undef,undef,undef],defers:=[] }
theorem TAx.abides {r s p q Bn n z:Nat} {sec:List UInt8} {a0:Option Addr} {c0:Nat} {x:Pr × Bool} {a':Act} {A A':World} (h:TAx r s p q Bn n (z+2) sec a0 c0 x a' A) (hk:Kept (Mid z (z+2)) A A'):TAx r s p q Bn n (z+2) sec a0 c0 x a' A':=by
 obtain ⟨b,hb,hB,he⟩:=h;exact ⟨b,hb,hB.kept hk (fun hm=>by have:=hm.2;omega),he⟩
set_option maxHeartbeats 4000000 in
theorem ptake_own (w:World) (r:Nat) (l:List UInt8) (err:Int) (h:Rdr w r l err) (hl:l.length≤100000) (hT:Tabs w) (HS:takeErr l err=0→(eachL (takeSec l err)).2=true→SortAt (eachL (takeSec l err)).1) :
  Calls Tryz.prog 138 #[.pointer (some ⟨r,0,none⟩)] w (TakeOwn (takeR l err) (takeLeft l err) (takeErr l err) w r):=by
 obtain ⟨i0,hi,hz0,hz1,hz2⟩:=info_parts info_prop;have hrl:=h.lt
 have hsec:(takeSec l err).length≤100000:=by
  have h1:=(rv_suf 4 0 0 l err).length_le;unfold takeSec taken
  split
  ·rw[List.length_take];omega
  ·simp
 have hv32:(rv 4 0 0 l err).1 < 4294967296:=by have:=rv_lt 4 0 0 l err (by decide);omega
 have cV:=fun wx (hx:Rdr wx r l err)=>rvar_any wx r l err hx
 have cS:=fun wx (hx:Rdr wx r (rv 4 0 0 l err).2.1 (rv 4 0 0 l err).2.2)=>sub_any wx r _ _ (rv 4 0 0 l err).1 hx
 have hTS:(takeSec l err)=taken (rv 4 0 0 l err).1 (rv 4 0 0 l err).2.1 (rv 4 0 0 l err).2.2:=rfl;have hTL:(takeLeft l err)=leftL (rv 4 0 0 l err).1 (rv 4 0 0 l err).2.1 (rv 4 0 0 l err).2.2:=rfl;have hTE:(takeErr l err)=leftE (rv 4 0 0 l err).1 (rv 4 0 0 l err).2.1 (rv 4 0 0 l err).2.2:=rfl;rw[← hTS,← hTL,← hTE]at cS;clear hTS hTL hTE;generalize hR:takeR l err=R;unfold takeR at hR;generalize takeSec l err=sec at *;generalize takeLeft l err=l2 at *;generalize takeErr l err=e2 at *;generalize rv 4 0 0 l err=VV at *;obtain ⟨n,l1,e1⟩:=VV;dsimp only at cS hv32;have hwn:IntKind.i64.wrap (n:Int)=(n:Int):=by rw[IntKind.wrap_i64];omega
 refine (callsIn_wide (n:=3)).1 ?_;refine callsIn_of_wp_marks Tryz.func138 rfl trivial ?_ rfl;simp only[Tryz.ntmps138,List.size_toArray,List.length_cons,List.length_nil,Nat.reduceAdd,Nat.reduceSub,Array.replicate_succ,Array.replicate_zero,List.push_toArray,List.append_toArray,List.nil_append,List.cons_append]
 gi_wp2_with fail
 have hb1:=(Blk.new w 58 #[.slice none 0 0]).alloc (.cells #[.bool false] 4);have hb2:=Blk.new (w.alloc (.cells #[.slice none 0 0] 58)) 4 #[.bool false];have hkA:Kept No w ((w.alloc (.cells #[.slice none 0 0] 58)).alloc (.cells #[.bool false] 4)):=((Kept.refl No w).alloc _).alloc _;have hsA:((w.alloc (.cells #[.slice none 0 0] 58)).alloc (.cells #[.bool false] 4)).heap.size=w.heap.size+2:=by simp
 simp only[World.size_alloc]at hb2;generalize (w.alloc (.cells #[.slice none 0 0] 58)).alloc (.cells #[.bool false] 4)=wA at *;have hrA:=h.keptNo hkA;refine ⟨trivial,(callsIn_wide.2 (cV wA hrA)).mono ?_⟩;rintro e wV ⟨rfl,haV⟩;have hTV:Tabs wV:=(hT.kept hkA).keptRdr hrA haV.kept;have hkV:Kept (One r) w wV:=hkA.any.trans haV.kept;have hsV:=haV.kept.size;have n1:¬ One r w.heap.size:=fun e=>by have:w.heap.size=r:=e;omega
 have n2:¬ One r (w.heap.size+1):=fun e=>by have:w.heap.size+1=r:=e;omega
 have hb1:=hb1.kept haV.kept n1;have hb2:=hb2.kept haV.kept n2;have hrV:=haV.rdr;have hst:Stay w wV r:=(Stay.same (hkA.cell (p:=⟨r,0,none⟩) hrl (fun f=>f))).trans haV.stay;have hzV:w.heap.size+2≤wV.heap.size:=by omega
 clear hkA hsA h hrA cV haV hsV;dsimp only at hrV
 gi_wp2_with fail
 refine ⟨trivial,(callsIn_wide.2 (cS wV hrV)).mono ?_⟩;rintro e w2 ⟨s,rfl,hsl,hrs,ha2⟩;have hT2:Tabs w2:=hTV.keptRdr hrV ha2.kept;have hk2:Kept (One r) w w2:=hkV.trans ha2.kept;have hb1:=hb1.kept ha2.kept n1;have hb2:=hb2.kept ha2.kept n2;have hr2:RdS w w2 r l2 e2:=⟨ha2.rdr,hst.trans ha2.stay⟩
 have hs2:=ha2.kept.size;clear cS ha2 hTV hkV hrV
 gi_wp2_with fail
 refine ⟨trivial,(callsIn_wide.2 (err_any w2 s sec e2 hrs)).mono ?_⟩;rintro e w3 ⟨rfl,rfl⟩;have p1:=hb1.cell 0;have p2:=hb2.cell 0;simp at p1 p2;have f1:=hb1.frozen 0;have f2:=hb2.frozen 0
 by_cases he:e2=0
 case neg =>
  have heI:(e2 == 0)=false:=by simpa using he
  have heN:(e2 != 0)=true:=by simpa using he
  rw[if_neg he]at hR;subst hR;have HE:=Lib.hid he;clear he
  gi_wp2
  generalize hW9:((w2.setCell ⟨w.heap.size,0,none⟩ (.slice none 0 0)).setCell ⟨w.heap.size+1,0,none⟩ (.bool false))=W9 at *
  have e1:Blk W9 w.heap.size 58 #[.slice none 0 0]:=by
   have:=(hb1.set_ 0 (.slice none 0 0)).far (p:=⟨w.heap.size+1,0,none⟩) (by simp) (.bool false)
   rw[← hW9];simpa using this
  have e2:Blk W9 (w.heap.size+1) 4 #[.bool false]:=by
   have:=(hb2.far (p:=⟨w.heap.size,0,none⟩) (by simp) (.slice none 0 0)).set_ 0 (.bool false)
   rw[← hW9];simpa using this
  have hk9:Kept (Twin w.heap.size) w2 W9:=by rw[← hW9];exact ((Kept.refl _ w2).setCell (p:=⟨w.heap.size,0,none⟩) (.inr (.inl rfl)) _).setCell (p:=⟨w.heap.size+1,0,none⟩) (.inr (.inr rfl)) _
  have y1:=e1.cell 0;have y2:=e2.cell 0;simp at y1 y2;have yl1:=e1.lt;have yl2:=e2.lt;clear hW9;refine ⟨.tuple #[.slice none 0 0,.bool false],by simp[results,Tryz.results138,go_sem,y1,y2,yl1,yl2],?_⟩
  have h9:=hr2.keptTyp hk9 (fun hS=>by rcases hS with h|h<;>omega) (fun b hS cs fz hx=>by
   rcases hS with h|h
   ·subst h;unfold Blk at hb1;rw[hb1]at hx;injection hx with hx;injection hx with _ h2 _;exact absurd h2 (by decide)
   ·subst h;unfold Blk at hb2;rw[hb2]at hx;injection hx with hx;injection hx with _ h2 _;exact absurd h2 (by decide))
  exact ⟨none,0,rfl,World.ownsRow_nil _ _ _ _,h9.rdr,hk2.then hk9 fun i hi hS=>by rcases hS with h|h<;>omega,h9.stay⟩
 subst he;rw[if_pos rfl]at hR;have HSO:=Lib.hid (HS rfl);clear HS
 gi_wp2_with fail
 have hb3:=Blk.new w2 58 #[.slice none 0 0];have hkQ:Kept No w2 (w2.alloc (.cells #[.slice none 0 0] 58)):=(Kept.refl No w2).alloc _;have hzQ:(w2.alloc (.cells #[.slice none 0 0] 58)).heap.size=w2.heap.size+1:=by simp
 generalize w2.alloc (.cells #[.slice none 0 0] 58)=wQ at *;have hrQ:=hrs.keptNo hkQ;have hsw:=hrs.lt;refine ⟨trivial,(callsIn_wide.2 (rrest_any wQ s sec 0 hrQ)).mono ?_⟩;rintro e w3 ⟨rfl,ha3⟩;have m1:¬ One s w.heap.size:=fun e=>by have:w.heap.size=s:=e;omega
 have m2:¬ One s (w.heap.size+1):=fun e=>by have:w.heap.size+1=s:=e;omega
 have m3:¬ One s w2.heap.size:=fun e=>by have:w2.heap.size=s:=e;omega
 have hb1:=(hb1.kept hkQ (fun f=>f)).kept ha3.kept m1;have hb2:=(hb2.kept hkQ (fun f=>f)).kept ha3.kept m2;have hb3:=hb3.kept ha3.kept m3;have hT3:Tabs w3:=(hT2.kept hkQ).keptRdr hrQ ha3.kept;have hr3:=(hr2.keptNo hkQ).kept ha3.kept (fun e=>by have:r=s:=e;omega) (fun b e _=>by have:b=s:=e;subst this;exact hrQ.noByte);have hk3:Kept (One r) w w3:=(hk2.trans hkQ.any).then ha3.kept (fun i hi e=>by have:i=s:=e;omega);have hs3:=ha3.kept.size;clear ha3 hrQ hkQ hT2 hk2 hr2 hrs;obtain ⟨bw1,bw2⟩:=bytes_world w3 sec;have hcv:=Lib.run_convert_string_bytes (P:=Tryz.prog) w3 9 29 5 ⟨sec.toArray⟩ Tryz.underlying9 Tryz.underlying29 Tryz.underlying5;rw[ba_size]at hcv;generalize Lib.bytesWorld w3 5 ⟨sec.toArray⟩=w4 at *;generalize grownCap w3 sec.length 0 5=c4 at *
 gi_wp2_with fail
 refine ⟨trivial,(callsIn_wide.2 (each_any _ c4 sec w4 bw2 (by simp) (by omega))).mono ?_⟩;rintro e wL ⟨Bn,a5,c5,rfl,hcell,hrow,hnn,hkL⟩;have hkL:=bw1.trans hkL;have hb1:=hb1.kept hkL (fun f=>f);have hb2:=hb2.kept hkL (fun f=>f);have hb3:=hb3.kept hkL (fun f=>f);have hTL:=hT3.kept hkL;have hrL:=hr3.keptNo hkL;have hkR:Kept (One r) w wL:=hk3.trans hkL.any;have hzL:w2.heap.size+1≤wL.heap.size:=by have:=hkL.size;omega
 clear hkL bw1 bw2 hcv hT3 hr3 hk3 p1 p2 f1 f2
 gi_wp2_with fail
 refine range_law (F:=Fence.wide) (n:=3) rfl (by decide) (gf:=172) (lb:=#[.pointer (some ⟨Bn,0,none⟩)]) rfl trivial (enters_of Tryz.func172 (by kernel_rfl) rfl)
  (each1_seq sec Bn a5 c5 _ wL hcell hrow hnn (by omega)) ?hps (TI w.heap.size w2.heap.size wL) (TX w.heap.size w2.heap.size wL)
  (fun B s9 A A' hB h hk=>h.abides (by omega) (by omega) (Nat.le_refl _) hk) (fun B s9 A h=>hT.keptS hTL h.choose_spec.2.2.2.2.2 (fun k e=>by have:k=w2.heap.size:=e;omega)) (fun cc s9 A A' h hk=>h.abides (by omega) (by omega) (Nat.le_refl _) hk)
  (fun B hB=>⟨.slice none 0 0,by simp,hb1,hb2,hb3,World.ownsRow_nil _ _ _ _,Kept.refl _ _⟩) (TAx r s w.heap.size w2.heap.size Bn n (wL.heap.size+2) sec (some ⟨w3.heap.size,0,none⟩) c4) (fun x a' A A' h hk=>h.abides hk) ?assign ?body ?done ?stop
 case hps=>intro x;rfl
 case assign =>
  rintro l9 B pre ⟨⟨id,n9,A,B9⟩,k⟩ W K hB hBW hi hK;simp only[encPB]
  gi_wp2
  refine hK _ _ (((Kept.refl No W).alloc _).holds2 hBW (fun _ _ _ f=>f) (fun _ _ _ f=>f.elim)) (hi.abides (by omega) (by omega) (Nat.le_refl _) ((Kept.refl _ W).alloc _)) ⟨W.heap.size,by omega,Blk.new W _ _,rfl⟩
 case body =>
  rintro l9 B pre ⟨⟨id,n9,A,B9⟩,k⟩ a' W hpre hB hBW ⟨v,hall,b1,b2,b3,hown,hwk⟩ ⟨b,hbz,hbp,rfl⟩;obtain ⟨av,cv,rfl,hrv,hnv⟩:=own_form hown
  have hlen:pre.length≤200000:=by
   have g1:=hpre.length_le;have g2:=seq_len sec;have g3:=each_len sec.length sec;rw[List.length_append]at g1;have g4:(eachL sec).1.length≤sec.length:=g3
   split at g2<;>omega
  have p1:=b1.cell 0;have p2:=b2.cell 0;have p3:=b3.cell 0;have q0:=hbp.cell 0;have q1:=hbp.cell 1;have q2:=hbp.cell 2;have q3:=hbp.cell 3;simp at p1 p2 p3 q0 q1 q2 q3;have f1:=b1.frozen 0;have f2:=b2.frozen 0;have f3:=b3.frozen 0;have HALL:=Lib.hid hall;clear hall;cases k with
  | false =>
   gi_wp2
   exact TX.leave (x:=(⟨id,n9,A,B9⟩,false)) (by omega) (by omega) hB hBW rfl b1 b2 hwk
  | true =>
   gi_wp2_with (gi_at_builtin;refine wpListIn_append_own _ rfl _ _ 58 rfl B 95 i0 _ 4 40 Tryz.underlying58 hi hz0 hz1 hz2 rfl (by decide) _ _ _ rfl (hown.alloc _) ⟨W.heap.size,0,none⟩ 1 1 (PC [⟨id,n9,A,B9⟩]) rfl (PC_length4 [] _) (new_prop (p:=⟨id,n9,A,B9⟩)) (PC_cell1 _) ?c1 ?c2 ?c3 ?_;rotate_right;intro v4 W4 hown4 hg4 hv4;obtain ⟨a4,c40,rfl,_,_⟩:=own_form hown4;have hb34:=(b3.alloc (.cells #[.int .u8 id,.int .u32 n9,.string A,.string B9] 95)).grown hg4 (fun h=>by have:=(hown.lt _ h).1;omega);have y3:=hb34.cell 0;simp at y3;have g3:=hb34.frozen 0;have yl:=hb34.lt)
   case c1=>unfold maxLen;omega
   case c2=>omega
   case c3=>first|omega|(simp;omega)|(show B≤(W.alloc _).heap.size;rw[World.size_alloc];omega)
   exact TI.next (x:=⟨id,n9,A,B9⟩) (by omega) (by omega) (by omega) hB hBW HALL.out b1 b2 b3 hown hwk (Nat.le_refl _) hg4 hown4
 case done =>
  rintro B xs W hzB rfl ⟨v,hall,b1,b2,b3,hown,hwk⟩ hD;obtain ⟨av,cv,rfl,hrv,hnv⟩:=own_form hown;obtain ⟨hE1,hE2⟩:=seq_all hall;have hsrt:=HSO.out hE1;rw[hE1,if_pos rfl]at hR;subst hR;have p1:=b1.cell 0;have p2:=b2.cell 0;have p3:=b3.cell 0;simp at p1 p2 p3;have f1:=b1.frozen 0;have f2:=b2.frozen 0;have hlen:(seqL sec).length=(eachL sec).1.length:=by rw[← hE2];simp
  rw[hlen]at hnv p3;rw[hE2]at hrv
  gi_wp2_with fail
  refine ⟨trivial,(callsIn_wide.2 (hsrt av cv W hrv hnv)).mono ?_⟩;rintro e W2 ⟨aS,cS9,rfl,hownS,hkS⟩;have hbb1:=b1.kept hkS (fun f=>f);have hbb2:=b2.kept hkS (fun f=>f);have p1:=hbb1.cell 0;have p2:=hbb2.cell 0;simp at p1 p2;have f1:=hbb1.frozen 0;have f2:=hbb2.frozen 0;have hDS:=(hkS.block _ (Array.getElem?_eq_some_iff.1 hD).1 (fun f=>f)).trans hD
  gi_wp2
  generalize hX:(sortL (eachL sec).1)=X at *
  have hD1:((W2.setCell ⟨w.heap.size,0,none⟩ (.slice aS X.length cS9)).setCell ⟨w.heap.size+1,0,none⟩ (.bool true)).heap[wL.heap.size]?=some (.deferred (some [])) :=
   (Below.heap_setCell _ _ _ _ (by simp;omega)).trans ((Below.heap_setCell _ _ _ _ (by simp;omega)).trans hDS)
  refine ⟨by simp,.inl ⟨_,_,rfl,run_takeDeferred hD1,?_⟩⟩;generalize hW9:(((W2.setCell ⟨w.heap.size,0,none⟩ (.slice aS X.length cS9)).setCell ⟨w.heap.size+1,0,none⟩ (.bool true)).putObj wL.heap.size (.deferred none))=W9 at *;have hkp:Kept (Mid wL.heap.size (wL.heap.size+1)) ((W2.setCell ⟨w.heap.size,0,none⟩ (.slice aS X.length cS9)).setCell ⟨w.heap.size+1,0,none⟩ (.bool true)) W9:=by rw[← hW9];exact kept_put (w:=(W2.setCell ⟨w.heap.size,0,none⟩ (.slice aS X.length cS9)).setCell ⟨w.heap.size+1,0,none⟩ (.bool true)) wL.heap.size (.deferred none) (Nat.le_refl _) (by omega)
  have hk1:Kept (Twin w.heap.size) W2 ((W2.setCell ⟨w.heap.size,0,none⟩ (.slice aS X.length cS9)).setCell ⟨w.heap.size+1,0,none⟩ (.bool true)) :=
   ((Kept.refl _ W2).setCell (p:=⟨w.heap.size,0,none⟩) (.inr (.inl rfl)) _).setCell (p:=⟨w.heap.size+1,0,none⟩) (.inr (.inr rfl)) _
  have e1:Blk W9 w.heap.size 58 #[.slice aS X.length cS9]:=by
   have:=(hbb1.set_ 0 (.slice aS X.length cS9)).far (p:=⟨w.heap.size+1,0,none⟩) (by simp) (.bool true)
   exact Blk.kept (by simpa using this) hkp (fun hm=>by have:=hm.1;omega)
  have e2:Blk W9 (w.heap.size+1) 4 #[.bool true]:=by
   have:=(hbb2.far (p:=⟨w.heap.size,0,none⟩) (by simp) (.slice aS X.length cS9)).set_ 0 (.bool true)
   exact Blk.kept (by simpa using this) hkp (fun hm=>by have:=hm.1;omega)
  have hszW:wL.heap.size+1≤W.heap.size:=(Array.getElem?_eq_some_iff.1 hD).1;have e3:=own_ne (own_ne hownS hk1 (fun g hg hS=>by rcases hS with h|h<;>omega)) hkp (fun g hg hm=>by have:=hm.2;omega);have hk9:Kept (fun k=>Twin w.heap.size k∨k=w2.heap.size) wL W9:=(((hwk.mono fun k _ h=>.inr h).trans hkS.any).trans (hk1.mono fun k _ h=>.inl h)).then hkp (fun i hi hm=>by have:=hm.1;omega);have y1:=e1.cell 0;have y2:=e2.cell 0;simp at y1 y2;have yl1:=e1.lt;have yl2:=e2.lt;clear hW9 hkp;refine ⟨.tuple #[.slice aS X.length cS9,.bool true],by simp[results,Tryz.results138,go_sem,y1,y2,yl1,yl2],?_⟩;exact ⟨aS,cS9,rfl,own_base e3 (by omega),after_end hrL hkR hk9 (fun k hk=>by rcases hk with (h|h)|h<;>omega) hb1 hb2 hb3⟩
 case stop =>
  rintro cc pre W hpre ⟨rfl,⟨d,x,rfl,hx⟩,b1,b2,hwk⟩ hD
  have hbad:(eachL sec).2=false:=by
   cases hh:(eachL sec).2 with
   | false=>rfl
   | true =>
    exfalso;have hm:=hpre.subset (List.mem_append_right d (List.mem_singleton.2 rfl));unfold seqL at hm;rw[hh]at hm;simp at hm;obtain ⟨y,_,hy⟩:=hm;rw[← hy]at hx;cases hx
  rw[hbad,if_neg (by simp)]at hR;subst hR;have p1:=b1.cell 0;have p2:=b2.cell 0;simp at p1 p2
  gi_wp2
  refine ⟨by simp,.inl ⟨_,_,rfl,run_takeDeferred hD,?_⟩⟩;generalize hW9:W.putObj wL.heap.size (.deferred none)=W9 at *;have hkp:Kept (Mid wL.heap.size (wL.heap.size+2)) W W9:=by rw[← hW9];exact kept_put (w:=W) wL.heap.size (.deferred none) (Nat.le_refl _) (by omega)
  have e1:=b1.kept hkp (fun hm=>by have:=hm.1;omega);have e2:=b2.kept hkp (fun hm=>by have:=hm.1;omega);have hk9:=hwk.then hkp (fun i hi hm=>by have:=hm.1;omega);have y1:=e1.cell 0;have y2:=e2.cell 0;simp at y1 y2;have yl1:=e1.lt;have yl2:=e2.lt;clear hW9 hkp;refine ⟨.tuple #[.slice none 0 0,.bool false],by simp[results,Tryz.results138,go_sem,y1,y2,yl1,yl2],?_⟩;refine ⟨none,0,rfl,World.ownsRow_nil _ _ _ _,?_⟩;exact after_end hrL hkR hk9 (fun k hk=>by rcases hk with (h|h)|h<;>omega) hb1 hb2 hb3
end Go.Proofs.YtofjhopecfmbcaaGreatDoor
namespace Go.Proofs.YtofjhopecfmbcaaGreatDoor
open Go.RowKit
set_option linter.unusedVariables false
set_option linter.unusedSimpArgs false
set_option maxRecDepth 100000
theorem ins_small (a:Option Addr) (n c:Nat) (f:Value) (w:World) (h:n≤1) :
  Calls Tryz.prog 195 #[.slice a n c,.int .i64 0,.int .i64 n,f] w fun e w'=>e=.returned (.tuple #[])∧Kept No w w':=by
 have hI:decide ((1:Int) < (n:Int))=false:=by simp;omega
 have hI2:(n:Int)≤1:=by omega
 go_enter Tryz.func195,Tryz.ntmps195
 go_wp2
 go_loopw [8] (fun i wr=>i=.int .i64 1∧Kept No w wr) (fun i _=>0)
 case atStart=>exact ⟨rfl,Kept.refl _ _⟩
 case round =>
  obtain ⟨rfl,hk⟩:=hrel
  go_wp2
  first|go_end0|go_ret
  exact ⟨rfl,hk⟩
theorem stable_small (a:Option Addr) (n c:Nat) (f:Value) (w:World) (h:n≤1) :
  Calls Tryz.prog 188 #[.slice a n c,.int .i64 n,f] w fun e w'=>e=.returned (.tuple #[])∧Kept No w w':=by
 have hI:decide ((20:Int)≤(n:Int))=false:=by simp;omega
 have hI2:decide ((20:Int) < (n:Int))=false:=by simp;omega
 have H:=Lib.hid (fun wx=>ins_small a n c f wx h)
 go_enter Tryz.func188,Tryz.ntmps188
 go_wp2
 go_loopw [7,8] (fun x y wr=>x=.int .i64 0∧y=.int .i64 20∧Kept No w wr) (fun _ _ _=>0)
 case atStart=>exact ⟨rfl,rfl,Kept.refl _ _⟩
 case round =>
  obtain ⟨rfl,rfl,hk⟩:=hrel
  go_wp2_with (go_at_call 195;refine (H.out _).mono ?_;rintro e w2 ⟨rfl,hk2⟩)
  go_loopw [6,7,8] (fun z x y wr9=>z=.int .i64 20∧Kept No w wr9) (fun _ _ _ _=>0)
  case atStart=>exact ⟨rfl,hk.trans hk2⟩
  case round =>
   obtain ⟨rfl,hk3⟩:=hrel
   go_wp2
   first|go_end0|go_ret
   exact ⟨rfl,hk3⟩
theorem sortL_small (X:List Pr) (h:X.length≤1):sortL X=X:=by
 cases X with
 | nil=>simp[sortL]
 | cons p t =>
  cases t with
  | nil=>simp[sortL]
  | cons q t=>simp at h
theorem sort_small (X:List Pr) (h:X.length≤1):SortAt X:=by
 intro a c w hr hn;have cC:=Lib.hid (pclone_any a c X w hr hn (by omega));have HS:=Lib.hid (fun (a1:Option Addr) (c1:Nat) (f:Value) (wx:World)=>stable_small a1 X.length c1 f wx h);have hSX:sortL X=X:=sortL_small X h
 have cF:∀ (a1:Option Addr) (c1:Nat) (f:Value) (wx:World),Calls Tryz.prog 175 #[.slice a1 X.length c1,f] wx fun e w'=>e=.returned (.tuple #[])∧Kept No wx w':=by
  intro a1 c1 f wx
  go_enter Tryz.func175,Tryz.ntmps175
  go_wp2_with (go_at_call 188;refine (HS.out _ _ _ _).mono ?_;rintro e w2 ⟨rfl,hk2⟩)
  first|go_end0|go_ret
  exact ⟨rfl,hk2⟩
 have HF:=Lib.hid cF;rw[hSX];clear HS cF
 go_enter Tryz.func159,Tryz.ntmps159
 go_wp2_with (first
  | (go_at_call 174;refine cC.out.mono ?_;rintro e w1 ⟨a1,c1,rfl,hown,hk1⟩)
  | (go_at_call 175;refine (HF.out _ _ _ _).mono ?_;rintro e w2 ⟨rfl,hk2⟩))
 go_ret
 exact ⟨a1,c1,rfl,own_keptNo hown hk2,hk1.trans hk2⟩
end Go.Proofs.YtofjhopecfmbcaaGreatDoor
