import Derived.Test.YtkochkhfbhjicaaGreatDoorYFG
import Derived.Test.YtkochkhfbhjicaaGreatDoorYF3
import Derived.Test.YtkochkhfbhjicaaGreatDoorYFC
import Derived.Test.YtkochkhfbhjicaaGreatDoorYFE
import Derived.Test.YtkochkhfbhjicaaGreatDoorYFB
namespace Go.Proofs.YtkochkhfbhjicaaGreatDoor
set_option maxHeartbeats 4000000
open Go.RowKit
set_option linter.unusedVariables false
set_option linter.unusedSimpArgs false
section
variable {w w' w0:World} {B k n b:Nat} {e t:TypeId} {v:Value} {xs:List Value} {c:Array Value}
theorem j8 (h:w.ownsRow B e k v n xs) (hk:Kept No w w'):w'.ownsRow B e k v n xs:=jD6 h hk (λ_ _ f _=>f)
theorem jM (h:w.ownsRow B e k v n xs) (hb:Blk w b t c) (ht:t≠e) (hk:Kept (One b) w w'):w'.ownsRow B e k v n xs:=jJl h hb ht hk
theorem jD4 {S:Nat→Prop} (h:w.ownsRow B e k v n xs) (hne:∀ g,v.ownBlock=some g→¬ S g) (hk:Kept S w w'):w'.ownsRow B e k v n xs:=by
 refine ⟨h.1,?_⟩;rcases h.2 with h2|⟨g',cap,cur,q1,q2,q3,q4⟩
 ·exact .inl h2
 ·exact .inr ⟨g',cap,cur,q1,q2,(hk.block g' (Array.getElem?_eq_some_iff.1 q3).1 (hne g' (by rw[q1];rfl))).trans q3,q4⟩
theorem j01 (h:w.ownsRow B e k v n xs) (hne:∀ g,v.ownBlock=some g→g<b) (hk:Kept (One b) w w'):w'.ownsRow B e k v n xs :=
 jD4 h (λg hg e=>by have e:g=b:=e;have:=hne g hg;omega) hk
theorem vT {b:Nat} (h:w.ownsRow B e k v n xs) (hN:w.heap.size≤b):∀ g,v.ownBlock=some g→g<b:=λg hg=>Nat.lt_of_lt_of_le (h.lt g hg).2 hN
theorem vI {B':Nat} (h:w.ownsRow B e k v n xs) (hB:B'≤B):w.ownsRow B' e k v n xs:=by
 refine ⟨h.1,?_⟩;rcases h.2 with h2|⟨g',cap,cur,q1,q2,q3⟩
 ·exact .inl h2
 ·exact .inr ⟨g',cap,cur,q1,Nat.le_trans hB q2,q3⟩
def Sv (v:Value):Nat→Prop:=λg=>v.ownBlock=some g
theorem jS (h:w.ownsRow B e k v n xs) (hb:Blk w b t c) (ht:t≠e):¬ Sv v b:=λhv=>by
 obtain ⟨cur,hc⟩:=zh h hv;unfold Blk at hb hc;rw[hb]at hc;injection hc with hc;injection hc with _ hc _;exact ht hc
theorem zM (hne:∀ g,v.ownBlock=some g→g<b):¬ Sv v b:=λhv=>by have:=hne b hv;omega
theorem fa0 {α:Type} {P:α→Prop}:∀ y∈([]:List α),P y:=by intro y hy;cases hy
theorem fa1 {α:Type} {P:α→Prop} {x:α} {l:List α} (h:P x) (k:∀ y∈l,P y):∀ y∈x :: l,P y:=by
 intro y hy;rcases List.mem_cons.1 hy with rfl|hy
 ·exact h
 ·exact k y hy
theorem Hp.grown {M:List Bk} (H:Hp w0 w M) (h:w.ownsRow w0.heap.size e k v n xs) (hg:Kept (Sv v) w w') (hS:∀ y∈M,¬ Sv v y.b):Hp w0 w' M :=
 ⟨H.k.then hg (λi hi e=>by have:=(h.lt i e).1;omega),H.b.kept hg hS⟩
theorem jo (hg:w.grownBy w' v.ownBlock):Kept (Sv v) w w':=(Kept.refl (Sv v) w).grown hg (λk e=>.inr e)
theorem js {B2 k2 n2:Nat} {e2:TypeId} {v2:Value} {ys:List Value} (h:w.ownsRow B e k v n xs) (h2:w.ownsRow B2 e2 k2 v2 n2 ys) (ht:e≠e2) (hk:Kept (Sv v) w w'):w'.ownsRow B2 e2 k2 v2 n2 ys :=
 jD4 h2 (λg hg hv=>by
  obtain ⟨c1,h1⟩:=zh h hv;obtain ⟨c2,h3⟩:=zh h2 hg;unfold Blk at h1 h3;rw[h1]at h3;injection h3 with h3;injection h3 with _ h3 _;exact ht h3) hk
theorem qC (h:w.ownsRow B e k v n xs):∃ a c,v=.slice a n c:=by
 rcases h.2 with ⟨rfl,rfl⟩|⟨g,cap,cur,rfl,_⟩
 ·exact ⟨none,0,rfl⟩
 ·exact ⟨_,_,rfl⟩
theorem j0w {B:Nat} {e:TypeId} {k:Nat} (w:World):w.ownsRow B e k (.slice none 0 0) 0 []:=⟨by simp,.inl ⟨rfl,rfl⟩⟩
theorem j32 {M:List Bk} {m:Nat} (H:Hp w0 w (⟨b,e,c⟩ :: M)) (hc:c.size=m*k) (hm:m≤maxLen):w.ownsRow w0.heap.size e k (.slice (some ⟨b,0,none⟩) m m) m c.toList:=by
 have hb:=(H.b.at_ (j:=0) rfl)
 refine ⟨by simpa using hc,.inr ⟨b,m,c,rfl,hb.2,hb.1,Nat.le_refl _,hm,hc,?_⟩⟩;rw[List.take_of_length_le (by simp[hc])]
theorem vN (hB:Blk w b t c):∀ (j:Nat) (u:Value),c.toList[j]?=some u→w.cell? ((⟨b,0,none⟩:Addr).add j)=some u:=by
 intro j u h;have h1:=hB.cell j;rw[show (⟨b,0,none⟩:Addr).add j=⟨b,j,none⟩ from by simp[Addr.add];omega,h1];simpa using h
theorem Hp.size {M:List Bk} (H:Hp w0 w M):w0.heap.size≤w.heap.size:=H.k.size
end
section
variable {P:Program} {ops:Array Oper} {Q:Exit→Act→World→Prop} {a:Act} {w w0:World} {rest:List Oper} {N n:Nat} {L:List (Nat × Value)} {v:Value} {ty:TypeId} {ps:String} {af:Array Edge} {op:Op} {gd:Nat × Bool} {G X Y:Bool}
theorem j40 {M:List Bk} {c:Array Value} {t:TypeId} {m:Nat} (F:Fr a N L) (H:Hp w0 w M) (hn:Nat.blt n N=true) (h:(execOp a.eval ⟨some n,op,ty,ps,af,none⟩).run P w=.ok (.value (.slice (some ⟨w.heap.size,0,none⟩) m m)) (w.alloc (.cells c t)))
  (k:∀ (b:Nat) (w':World) (a':Act),Kept No w w'→w.heap.size≤b→Hp w0 w' (⟨b,t,c⟩ :: M)→Fr a' N ((n,.slice (some ⟨b,0,none⟩) m m) :: L)→wpList P ops Q rest a' w'):wpList P ops Q (⟨some n,op,ty,ps,af,none⟩ :: rest) a w :=
 j7 F hn h λa' F'=>k _ _ a' ((Kept.refl No w).alloc _) (Nat.le_refl _) (H.new t c) F'
theorem jW {ρ:Operand→Value} {o:Oper} {w':World} {t:TypeId} {len:Nat} {l:List (Nat × Operand)} {qs:List (Nat × Value)} (ho:o.op=.buildSlice t len l.toArray) (hl:(l.map λx=>(x.1,ρ x.2))=qs) (h:(Instr.buildSlice t len qs.toArray).run P w=.ok v w'):(execOp ρ o).run P w=.ok (.value v) w':=by
 subst hl;simp only[execOp,ho,List.map_toArray];exact qM h
theorem v8 {x y:Code} (M:Act→World→Prop) (h2:∀ a w,M a w→y.wp P Q a w) (h1:∀ K:Act→World→Prop,(∀ a w,M a w→K a w)→x.wp P (Exit.then K Q) a w):(Code.seq x y).wp P Q a w :=
 wp_seq_k λK hK=>h1 K λa' w' h=>hK _ _ (h2 a' w' h)
variable {md:Region.Mode} {S:World→Prop} {fuel:Nat} {listed:Array Bool} {i:Nat}
end
section
variable {P:Program} {ops:Array Oper} {Q:Exit→Act→World→Prop} {a:Act} {w w0:World} {N n:Nat} {L:List (Nat × Value)} {v:Value} {ty:TypeId} {ps:String} {af:Array Edge} {op:Op} {gd:Nat × Bool}
variable {md:Region.Mode} {S:World→Prop} {fuel:Nat} {listed:Array Bool} {i j m:Nat}
theorem qO {w':World} (F:Fr a N L) (hn:Nat.blt n N=true) (hi:ops[i]?=some ⟨some n,op,ty,ps,af,none⟩)
  (h:(execOp a.eval ⟨some n,op,ty,ps,af,none⟩).run P w=.ok (.value v) w') (hS:S w') (k:∀ a':Act,Fr a' N ((n,v) :: L)→wpAnyH P md ops Q S fuel (listed.setIfInBounds i true) a' w') :
  wpOp P ops Q i (λa' w'=>S w'∧wpAnyH P md ops Q S fuel (listed.setIfInBounds i true) a' w') a w:=by
 unfold wpOp;simp only[hi];rw[if_pos (j2u rfl)];left;unfold Oper.wp;rw[h];exact ⟨hS,k _ (F.put hn v)⟩
theorem zF {w':World} (hi:ops[i]?=some ⟨none,op,ty,ps,af,none⟩)
  (h:(execOp a.eval ⟨none,op,ty,ps,af,none⟩).run P w=.ok .skip w') (hS:S w') (k:wpAnyH P md ops Q S fuel (listed.setIfInBounds i true) a w') :
  wpOp P ops Q i (λa' w'=>S w'∧wpAnyH P md ops Q S fuel (listed.setIfInBounds i true) a' w') a w:=by
 unfold wpOp;simp only[hi];rw[if_pos (j2u rfl)];left;unfold Oper.wp;rw[h];exact ⟨hS,k⟩
theorem jZ {f:Nat} {args:Array Value} (F:Fr a N L) (hn:Nat.blt n N=true) (hi:ops[i]?=some ⟨some n,op,ty,ps,af,none⟩)
  (h:(execOp a.eval ⟨some n,op,ty,ps,af,none⟩).run P w=.ok (.enter f args) w) (hc:Calls P f args w λe w'=>e=.returned v∧Kept No w w') (hS:∀ w',Kept No w w'→S w')
  (k:∀ (w':World) (a':Act),Kept No w w'→S w'→Fr a' N ((n,v) :: L)→wpAnyH P md ops Q S fuel (listed.setIfInBounds i true) a' w') :
  wpOp P ops Q i (λa' w'=>S w'∧wpAnyH P md ops Q S fuel (listed.setIfInBounds i true) a' w') a w:=by
 unfold wpOp;simp only[hi];rw[if_pos (j2u rfl)];left;unfold Oper.wp;rw[h];refine hc.mono ?_;rintro e w' ⟨rfl,hk⟩;exact ⟨hS w' hk,k w' _ hk (hS w' hk) (F.put hn v)⟩
theorem vO {f:Nat} {args:Array Value} {R:Value→World→Prop} (F:Fr a N L) (hn:Nat.blt n N=true) (hi:ops[i]?=some ⟨some n,op,ty,ps,af,none⟩)
  (h:(execOp a.eval ⟨some n,op,ty,ps,af,none⟩).run P w=.ok (.enter f args) w) (hc:Calls P f args w λe w'=>∃ v,e=.returned v∧R v w'∧Kept No w w') (hS:∀ w',Kept No w w'→S w')
  (k:∀ (v:Value) (w':World) (a':Act),R v w'→Kept No w w'→S w'→Fr a' N ((n,v) :: L)→wpAnyH P md ops Q S fuel (listed.setIfInBounds i true) a' w') :
  wpOp P ops Q i (λa' w'=>S w'∧wpAnyH P md ops Q S fuel (listed.setIfInBounds i true) a' w') a w:=by
 unfold wpOp;simp only[hi];rw[if_pos (j2u rfl)];left;unfold Oper.wp;rw[h];refine hc.mono ?_;rintro e w' ⟨v,rfl,hR,hk⟩;exact ⟨hS w' hk,k v w' _ hR hk (hS w' hk) (F.put hn v)⟩
theorem qi {M:List Bk} {c:Array Value} {t:TypeId} (mk:Nat→Value) (F:Fr a N L) (H:Hp w0 w M) (hn:Nat.blt n N=true) (hi:ops[i]?=some ⟨some n,op,ty,ps,af,none⟩)
  (h:(execOp a.eval ⟨some n,op,ty,ps,af,none⟩).run P w=.ok (.value (mk w.heap.size)) (w.alloc (.cells c t))) (hS:∀ (b:Nat) (w':World),Hp w0 w' (⟨b,t,c⟩ :: M)→S w')
  (k:∀ (b:Nat) (w':World) (a':Act),Kept No w w'→w.heap.size≤b→Hp w0 w' (⟨b,t,c⟩ :: M)→Fr a' N ((n,mk b) :: L)→wpAnyH P md ops Q S fuel (listed.setIfInBounds i true) a' w') :
  wpOp P ops Q i (λa' w'=>S w'∧wpAnyH P md ops Q S fuel (listed.setIfInBounds i true) a' w') a w :=
 qO F hn hi h (hS _ _ (H.new t c)) λa' F'=>k _ _ a' ((Kept.refl No w).alloc _) (Nat.le_refl _) (H.new t c) F'
theorem jO (hr:Region.ready md ops listed=[i]) (h:wpOp P ops Q i (λa' w'=>S w'∧wpAnyH P md ops Q S fuel (listed.setIfInBounds i true) a' w') a w):wpAnyH P md ops Q S (fuel+1) listed a w:=by
 refine wpAnyH_all hr (by simp) λx hx=>?_
 obtain rfl:=List.mem_singleton.1 hx;exact h
theorem vu (hr:Region.ready md ops listed=[i,j]) (h:wpOp P ops Q i (λa' w'=>S w'∧wpAnyH P md ops Q S fuel (listed.setIfInBounds i true) a' w') a w) (h2:wpOp P ops Q j (λa' w'=>S w'∧wpAnyH P md ops Q S fuel (listed.setIfInBounds j true) a' w') a w) :
  wpAnyH P md ops Q S (fuel+1) listed a w:=by
 refine wpAnyH_all hr (by simp) λx hx=>?_
 rcases List.mem_cons.1 hx with rfl|hx
 ·exact h
 ·obtain rfl:=List.mem_singleton.1 hx
  exact h2
end
theorem j0r {ρ:Operand→Value} {P:Program} {o:Oper} {w:World} {l:List Operand} {ats:Array TypeId} {k:IntKind} {m n:Nat} (ho:o.op=.call {callee:=.builtin .min,args:=l.toArray,argTypes:=ats}) (hl:l.map ρ=[.int k (m:Int),.int k (n:Int)]) :
  (execOp ρ o).run P w=.ok (.value (.int k ((min m n:Nat):Int))) w:=by
 refine ji ho hl λcs=>?_
 simp only[builtin];refine qM ?_;rw[show (#[Value.int k (m:Int),Value.int k (n:Int)]:Array Value)=[Value.int k (m:Int),Value.int k (n:Int)].toArray from rfl];rw[run_min_int2]
 have:(if (n:Int)<(m:Int) then (n:Int) else (m:Int))=((min m n:Nat):Int):=by split<;>omega
 rw[this]
def j0j (n:Nat) (s:ByteArray):ByteArray:=s.extract 0 (min s.size n)
theorem j0k (n:Nat) (s:ByteArray):(j0j n s).size≤n:=by unfold j0j;simp;omega
theorem Row.byte_t {w:World} {a:Option Addr} {l:List UInt8} {b off k:Nat} (h:Row w a (B8 l)) (ha:a=some ⟨b,off,none⟩) (hk:k<l.length):w.cell? ⟨b,off+k*1,none⟩=some (.int .u8 (l[k].toNat:Int)):=by
 obtain ⟨b2,o2,h2,_,h3⟩:=h.at_ (k:=k) (by simpa using hk);rw[ha]at h2;injection h2 with h2;injection h2 with e1 e2;subst e1 e2;rw[Nat.mul_one,h3];simp[B8]
theorem Row.filt_t {w:World} {a:Option Addr} {L:List Fi} {b off k:Nat} (h:Row w a (FC L)) (ha:a=some ⟨b,off,none⟩) (hk:k<L.length):w.cell? ⟨b,off+k*2,none⟩=some (.string L[k].text):=by
 obtain ⟨b2,o2,h2,_,h3,_⟩:=h.filt hk;rw[ha]at h2;injection h2 with h2;injection h2 with e1 e2;subst e1 e2;exact h3
theorem Row.filt_o {w:World} {a:Option Addr} {L:List Fi} {b off k:Nat} (h:Row w a (FC L)) (ha:a=some ⟨b,off,none⟩) (hk:k<L.length):w.cell? ⟨b,off+k*2+1,none⟩=some (.int .u8 (L[k].opt:Int)):=by
 obtain ⟨b2,o2,h2,_,_,h3⟩:=h.filt hk;rw[ha]at h2;injection h2 with h2;injection h2 with e1 e2;subst e1 e2;exact h3
theorem vo {l:List Value} (h:l.all (·.oneCell')=true):∀ u∈l,u.oneCell'=true:=λu hu=>List.all_eq_true.1 h u hu
set_option maxRecDepth 100000
class FA (T k:Nat) (off:outParam Nat):Prop where
 h:∀ (B o:Nat) (w:World),(Instr.fieldAt T (.pointer (some ⟨B,o,none⟩)) k).run Tryz.prog w=.ok (.pointer (some ⟨B,o+off,none⟩)) w
class NA (T:Nat):Prop where
 h:∀ w:World,(isAgg T).run Tryz.prog w=.ok false w
class SZ1 (T:Nat):Prop where
 h:∀ w:World,(Go.sizeOf T).run Tryz.prog w=.ok 1 w
instance:NA 34:=⟨jF8⟩
instance:NA 23:=⟨jMx⟩
instance:NA 24:=⟨jMy⟩
instance:NA 33:=⟨jMz⟩
instance:NA 25:=⟨j16⟩
instance:NA 4:=⟨jP6⟩
instance:NA 3:=⟨j8c⟩
instance:NA 9:=⟨jHw⟩
instance:NA 22:=⟨jMw⟩
instance:NA 5:=⟨j4a⟩
instance:SZ1 34:=⟨jM0⟩
instance:SZ1 23:=⟨jLx⟩
instance:SZ1 24:=⟨jLy⟩
instance:SZ1 33:=⟨jLz⟩
instance:SZ1 25:=⟨jGo⟩
instance:SZ1 4:=⟨jOi⟩
instance:SZ1 3:=⟨jOh⟩
instance:SZ1 9:=⟨jOj⟩
instance:SZ1 22:=⟨jLw⟩
instance:SZ1 5:=⟨j7n⟩
instance:FA 63 0 0:=⟨jIw⟩
instance:FA 63 1 1:=⟨jIx⟩
instance:FA 36 0 0:=⟨jIi⟩
instance:FA 36 1 1:=⟨jIj⟩
instance:FA 36 2 2:=⟨jIk⟩
instance:FA 36 3 3:=⟨jIl⟩
instance:FA 36 4 4:=⟨jIm⟩
instance:FA 36 5 5:=⟨jIn⟩
instance:FA 36 6 6:=⟨jIo⟩
instance:FA 36 7 7:=⟨jIp⟩
instance:FA 36 8 8:=⟨jIq⟩
instance:FA 36 9 9:=⟨jIr⟩
instance:FA 36 10 10:=⟨jFy⟩
instance:FA 36 11 11:=⟨jFz⟩
instance:FA 36 12 12:=⟨jG0⟩
instance:FA 36 13 13:=⟨jG1⟩
instance:FA 36 14 14:=⟨jG2⟩
instance:FA 36 15 15:=⟨jG3⟩
instance:FA 36 16 16:=⟨jG4⟩
instance:FA 36 17 17:=⟨jG5⟩
instance:FA 36 18 18:=⟨jG6⟩
instance:FA 36 19 19:=⟨jG7⟩
instance:FA 36 20 20:=⟨jG8⟩
instance:FA 36 21 21:=⟨jG9⟩
instance:FA 36 22 22:=⟨j5l⟩
instance:FA 36 23 23:=⟨jGa⟩
instance:FA 36 24 24:=⟨jGb⟩
instance:FA 46 2 2:=⟨jIs⟩
instance:FA 46 3 3:=⟨jIt⟩
instance:FA 51 0 0:=⟨jIu⟩
instance:FA 51 1 1:=⟨jIv⟩
instance:FA 27 0 0:=⟨jI8⟩
instance:FA 27 1 1:=⟨jI9⟩
instance:FA 27 2 2:=⟨jIa⟩
instance:FA 27 3 3:=⟨jIb⟩
instance:FA 27 4 4:=⟨jIc⟩
instance:FA 27 5 5:=⟨jId⟩
instance:FA 27 6 6:=⟨jIe⟩
instance:FA 27 7 7:=⟨jIf⟩
instance:FA 27 8 8:=⟨jIg⟩
instance:FA 27 9 9:=⟨jIh⟩
instance:FA 27 10 10:=⟨jFk⟩
instance:FA 27 11 11:=⟨jFl⟩
instance:FA 27 12 12:=⟨jFm⟩
instance:FA 27 13 13:=⟨jFn⟩
instance:FA 27 14 14:=⟨jFo⟩
instance:FA 27 15 15:=⟨jFp⟩
instance:FA 27 16 16:=⟨jFq⟩
instance:FA 27 17 17:=⟨jFr⟩
instance:FA 27 18 18:=⟨jFs⟩
instance:FA 27 19 19:=⟨jFt⟩
instance:FA 27 20 20:=⟨jFu⟩
instance:FA 27 21 21:=⟨jFv⟩
instance:FA 27 22 22:=⟨jFw⟩
instance:FA 27 23 23:=⟨xc⟩
instance:FA 27 24 24:=⟨jFx⟩
section
variable {ops:Array Oper} {Q:Exit→Act→World→Prop} {a:Act} {w w0:World} {rest:List Oper} {N n:Nat} {L:List (Nat × Value)} {v:Value} {ty:TypeId} {ps:String} {af:Array Edge} {op:Op} {M:List Bk}
variable {md:Region.Mode} {S:World→Prop} {fuel:Nat} {listed:Array Bool}
theorem zd (k:∀ a':Act,Fr a' N ((n,v) :: L)→wpList Tryz.prog ops Q rest a' w) (F:Fr a N L:=by assumption) (H:Hp w0 w M:=by assumption) (hn:Nat.blt n N=true:=by rfl)
  (h:Fr a N L→Hp w0 w M→(execOp a.eval ⟨some n,op,ty,ps,af,none⟩).run Tryz.prog w=.ok (.value v) w:=by
   intro F H
   first
   | exact xA rfl (F.e rfl)
   | exact xu rfl (F.e rfl)
   | exact xA rfl jD
   | exact xu rfl jD
   | exact qx rfl (F.e rfl) (FA.h _ _ _)
   | exact jA rfl (F.e rfl) (jk (NA.h _) (H.c 0 rfl rfl))
   | exact jA rfl (F.e rfl) (jk (NA.h _) (H.c 1 rfl rfl))
   | exact jA rfl (F.e rfl) (jk (NA.h _) (H.c 2 rfl rfl))
   | exact jA rfl (F.e rfl) (jk (NA.h _) (H.c 3 rfl rfl))
   | exact jA rfl (F.e rfl) (jk (NA.h _) (H.c 4 rfl rfl))
   | exact j5i rfl (F.e rfl)
   | exact j27 rfl (F.e rfl) rfl):wpList Tryz.prog ops Q (⟨some n,op,ty,ps,af,none⟩ :: rest) a w:=j7 F hn (h F H) k
theorem zb {bo:BinOp} {t u:TypeId} {x y:Operand} {p q:Value} (hb:(do eqGuard bo t x y p q;binOp bo t p q:Sem Value).run Tryz.prog w=.ok v w) (k:∀ a':Act,Fr a' N ((n,v) :: L)→wpList Tryz.prog ops Q rest a' w) (F:Fr a N L:=by assumption) (hn:Nat.blt n N=true:=by rfl)
  (h:Fr a N L→(do eqGuard bo t x y p q;binOp bo t p q:Sem Value).run Tryz.prog w=.ok v w→(execOp a.eval ⟨some n,.binOp bo t x y u,ty,ps,af,none⟩).run Tryz.prog w=.ok (.value v) w:=by
   intro F hb
   first
   | exact jF rfl (F.e rfl) jD hb
   | exact jF rfl (F.e rfl) (F.e rfl) hb
   | exact jF rfl jD (F.e rfl) hb):wpList Tryz.prog ops Q (⟨some n,.binOp bo t x y u,ty,ps,af,none⟩ :: rest) a w:=j7 F hn (h F hb) k
theorem td (i:Nat) (k:∀ a':Act,Fr a' N ((n,v) :: L)→wpAnyH Tryz.prog md ops Q S fuel (listed.setIfInBounds i true) a' w) (F:Fr a N L:=by assumption) (hi:ops[i]?=some ⟨some n,op,ty,ps,af,none⟩:=by rfl)
  (hn:Nat.blt n N=true:=by rfl) (hr:(Region.noSelect ops&&(Region.free md ops listed i&&(Region.ready md ops listed).contains i))=true:=by kernel_rfl)
  (hQ:∀ c a w,Q (.panic c) (a.put (some n) v) w→Q (.panic c) a w:=by exact λ_ _ _ h=>h) (hS:S w:=by first|assumption|exact ⟨_,by assumption⟩)
  (h:∀ wz,S wz→Fr a N L→(execOp a.eval ⟨some n,op,ty,ps,af,none⟩).run Tryz.prog wz=.ok (.value v) wz:=by
   intro wz HS F
   first
   | (have H:=HS;first
    | exact xA rfl (F.e rfl)
    | exact xu rfl (F.e rfl)
    | exact xA rfl jD
    | exact xu rfl jD
    | exact qx rfl (F.e rfl) (FA.h _ _ _)
    | exact jA rfl (F.e rfl) (jk (NA.h _) (H.c 0 rfl rfl))
    | exact jA rfl (F.e rfl) (jk (NA.h _) (H.c 1 rfl rfl))
    | exact jA rfl (F.e rfl) (jk (NA.h _) (H.c 2 rfl rfl))
    | exact jA rfl (F.e rfl) (jk (NA.h _) (H.c 3 rfl rfl))
    | exact jA rfl (F.e rfl) (jk (NA.h _) (H.c 4 rfl rfl))
    | exact j5i rfl (F.e rfl)
    | exact j27 rfl (F.e rfl) rfl)
   | (obtain ⟨c9,H⟩:=HS;first
    | exact xA rfl (F.e rfl)
    | exact xu rfl (F.e rfl)
    | exact xA rfl jD
    | exact xu rfl jD
    | exact qx rfl (F.e rfl) (FA.h _ _ _)
    | exact jA rfl (F.e rfl) (jk (NA.h _) (H.c 0 rfl rfl))
    | exact jA rfl (F.e rfl) (jk (NA.h _) (H.c 1 rfl rfl))
    | exact jA rfl (F.e rfl) (jk (NA.h _) (H.c 2 rfl rfl))
    | exact jA rfl (F.e rfl) (jk (NA.h _) (H.c 3 rfl rfl))
    | exact jA rfl (F.e rfl) (jk (NA.h _) (H.c 4 rfl rfl))
    | exact j5i rfl (F.e rfl)
    | exact j27 rfl (F.e rfl) rfl)):wpAnyH Tryz.prog md ops Q S (fuel+1) listed a w:=jG F hn hi hr hQ hS (λwz hs=>h wz hs F) k
theorem zr {fn:Func} {t:Nat} {R:Ending→World→Prop} (hR:R (.returned v) w) (F:Fr a N L:=by assumption) (h:fn.results=#[.tmp t]:=by rfl) (hl:lk L t=some v:=by rfl):bodyPost Tryz.prog fn R Exit.ret a w :=
 bodyPost_ret (jM2 h (F.g t v hl)) F.d hR
theorem zc {c:Operand} {x y:Code} {X:Bool} (ht:X=true→x.wp Tryz.prog Q a w) (hf:X=false→y.wp Tryz.prog Q a w) (F:Fr a N L:=by assumption) (hc:Fr a N L→a.eval c=.bool X:=by intro F;exact F.e rfl):(Code.cond c x y).wp Tryz.prog Q a w:=jJ8 (hc F) ht hf
theorem rb {b c:Bool} (h:b=c) (H:Hp w0 w M:=by assumption):Ending.returned (.bool b)=.returned (.bool c)∧Kept No w0 w:=⟨by rw[h],H.k⟩
theorem ri {b c:Int} {k:IntKind} (h:b=c) (H:Hp w0 w M:=by assumption):Ending.returned (.int k b)=.returned (.int k c)∧Kept No w0 w:=⟨by rw[h],H.k⟩
theorem fin {p:Prop} (h:p:=by first|rfl|(simp;done)|(push_cast;omega)|(split<;>first|omega|(simp_all;done)|(simp_all;omega))|(push_cast;split<;>omega)):p:=h
theorem zg {gd:Nat × Bool} {G:Bool} (k:∀ a':Act,Fr a' N ((n,og G v) :: L)→wpList Tryz.prog ops Q rest a' w) (F:Fr a N L:=by assumption) (H:Hp w0 w M:=by assumption) (hn:Nat.blt n N=true:=by rfl)
  (hw:Fr a N L→Region.wanted ⟨some n,op,ty,ps,af,some gd⟩ (yielded ops a.tmps)=G:=by
   intro F
   first
   | exact qI F rfl rfl rfl
   | exact zS F rfl rfl rfl
   | exact j2v F rfl rfl rfl
   | exact j5w F rfl rfl rfl)
  (h:Fr a N L→Hp w0 w M→G=true→(execOp a.eval ⟨some n,op,ty,ps,af,some gd⟩).run Tryz.prog w=.ok (.value v) w:=by
   intro F H hG
   first
   | exact xA rfl (F.o rfl hG)
   | exact xA rfl (F.e rfl)
   | exact xA rfl jD
   | exact qx rfl (F.e rfl) (FA.h _ _ _)
   | exact jA rfl (F.o rfl hG) (jk (NA.h _) (H.c 0 rfl rfl))
   | exact jA rfl (F.o rfl hG) (jk (NA.h _) (H.c 1 rfl rfl))
   | exact jA rfl (F.o rfl hG) (jk (NA.h _) (H.c 2 rfl rfl))
   | exact jA rfl (F.o rfl hG) (jk (NA.h _) (H.c 3 rfl rfl))
   | exact j5i rfl (F.o rfl hG)
   | exact jI rfl (F.o rfl hG) (λhx=>F.o rfl (gai hG hx)) rfl
   | exact qL rfl (F.o rfl hG) (λhx=>F.o rfl (gai hG (gnt hx))) rfl):wpList Tryz.prog ops Q (⟨some n,op,ty,ps,af,some gd⟩ :: rest) a w:=qQ F hn (hw F) (h F H) k
theorem zgb {gd:Nat × Bool} {G:Bool} {bo:BinOp} {t u:TypeId} {x y:Operand} {p q:Value} (hb:(do eqGuard bo t x y p q;binOp bo t p q:Sem Value).run Tryz.prog w=.ok v w) (k:∀ a':Act,Fr a' N ((n,og G v) :: L)→wpList Tryz.prog ops Q rest a' w) (F:Fr a N L:=by assumption) (hn:Nat.blt n N=true:=by rfl)
  (hw:Fr a N L→Region.wanted ⟨some n,.binOp bo t x y u,ty,ps,af,some gd⟩ (yielded ops a.tmps)=G:=by
   intro F
   first
   | exact qI F rfl rfl rfl
   | exact zS F rfl rfl rfl
   | exact j2v F rfl rfl rfl
   | exact j5w F rfl rfl rfl)
  (h:Fr a N L→(do eqGuard bo t x y p q;binOp bo t p q:Sem Value).run Tryz.prog w=.ok v w→G=true→(execOp a.eval ⟨some n,.binOp bo t x y u,ty,ps,af,some gd⟩).run Tryz.prog w=.ok (.value v) w:=by
   intro F hb hG
   first
   | exact jF rfl (F.o rfl hG) jD hb
   | exact jF rfl (F.o rfl hG) (F.o rfl hG) hb
   | exact jF rfl (F.e rfl) jD hb
   | exact jF rfl (F.e rfl) (F.e rfl) hb
   | exact jF rfl (F.o rfl hG) (F.e rfl) hb
   | exact jF rfl (F.e rfl) (F.o rfl hG) hb):wpList Tryz.prog ops Q (⟨some n,.binOp bo t x y u,ty,ps,af,some gd⟩ :: rest) a w:=qQ F hn (hw F) (h F hb) k
theorem zs {b i:Nat} {t T:TypeId} {c:Array Value} {x y:Operand} {M2:List Bk} [SZ1 T] (M1:List Bk) (c':Array Value) (k:∀ w',Hp w0 w' (M1++⟨b,t,c'⟩ :: M2)→Kept (One b) w w'→wpList Tryz.prog ops Q rest a w')
  (F:Fr a N L:=by assumption) (hx:Fr a N L→a.eval x=.pointer (some ⟨b,i,none⟩):=by intro F;exact F.e rfl) (hy:Fr a N L→a.eval y=v:=by intro F;first|exact F.e rfl|exact jD)
  (H:Hp w0 w (M1++⟨b,t,c⟩ :: M2):=by assumption) (h1:v.oneCell'=true:=by rfl) (hi:i<c.size:=by first|decide|simp[Pk.cells,jm]) (e:c.setIfInBounds i v=c':=by rfl) :
  wpList Tryz.prog ops Q (⟨none,.store T x y,ty,ps,af,none⟩ :: rest) a w:=by
 obtain ⟨W9,hr,hB,hk⟩:=jBg (P:=Tryz.prog) (T:=T) (i:=i) (v:=v) (c':=c') w H.blk (SZ1.h w) h1 hi e;exact q9 (jJ rfl (hx F) (hy F) hr) (k W9 (H.turn M1 hk hB) hk)
theorem tst {b i:Nat} {t T:TypeId} {c:Array Value} {x y:Operand} {M2:List Bk} [SZ1 T] (i0:Nat) (M1:List Bk) (c':Array Value) (k:∀ w',Hp w0 w' (M1++⟨b,t,c'⟩ :: M2)→Kept (One b) w w'→wpAnyH Tryz.prog md ops Q S fuel (listed.setIfInBounds i0 true) a w')
  (F:Fr a N L:=by assumption) (hj:ops[i0]?=some ⟨none,.store T x y,ty,ps,af,none⟩:=by rfl) (hr:Region.ready md ops listed=[i0]:=by kernel_rfl) (hx:Fr a N L→a.eval x=.pointer (some ⟨b,i,none⟩):=by intro F;exact F.e rfl) (hy:Fr a N L→a.eval y=v:=by intro F;first|exact F.e rfl|exact jD)
  (H:Hp w0 w (M1++⟨b,t,c⟩ :: M2):=by assumption) (h1:v.oneCell'=true:=by rfl) (hi:i<c.size:=by first|decide|simp[Pk.cells,jm]) (e:c.setIfInBounds i v=c':=by rfl)
  (hS:∀ w',Hp w0 w' (M1++⟨b,t,c'⟩ :: M2)→S w':=by intro w' H;first|exact ⟨_,H⟩|exact H|exact H.tl|exact ⟨_,H.tl⟩|exact H.tl.tl|exact ⟨_,H.tl.tl⟩):wpAnyH Tryz.prog md ops Q S (fuel+1) listed a w:=by
 obtain ⟨W9,hw,hB,hk⟩:=jBg (P:=Tryz.prog) (T:=T) (i:=i) (v:=v) (c':=c') w H.blk (SZ1.h w) h1 hi e;have H9:=H.turn M1 hk hB;exact jO hr (zF hj (jJ rfl (hx F) (hy F) hw) (hS W9 H9) (k W9 H9 hk))
end
theorem jNt:FN Tryz.prog 73:=jr Tryz.func73 (by kernel_rfl) rfl
theorem jKq:FN Tryz.prog 25:=jr Tryz.func25 (by kernel_rfl) rfl
theorem jNu:FN Tryz.prog 74:=jr Tryz.func74 (by kernel_rfl) rfl
theorem jNv:FN Tryz.prog 75:=jr Tryz.func75 (by kernel_rfl) rfl
theorem j75 (p q:Pk) (s t:Sl) (w:World) (hp:p.At s w) (hq:q.At t w) (hpf:p.few) (hqf:q.few) :
  Calls Tryz.prog 73 #[p.val s,q.val t] w λe w'=>e=.returned (.bool (jB0 p q))∧Kept No w w':=by
 have hm1:=hpf.hf;have hm2:=hqf.hf;let RR:Ending→World→Prop:=λe w'=>e=.returned (.bool (jB0 p q))∧Kept No w w'
 go_enter Tryz.func73,Tryz.ntmps73
 generalize hA:({tmps:=_,defers:=[]}:Act)=A;have F:Fr A 45 [(1,(Pk.val q t)),(0,(Pk.val p s))]:=by rw[← hA];exact (Fr.cons (i:=1) (v:=(Pk.val q t)) (Fr.cons (i:=0) (v:=(Pk.val p s)) (Fr.nil0 rfl rfl) rfl) rfl)
 clear hA;have H:=Hp.start w;refine sg λK1 hK1=>?_;refine jj (c:=(Pk.cells p s)) (t:=36) F H rfl (qW rfl (F.e rfl) (qX _ _)) ?_;clear F A;intro b2 W A hk hN H9 F;clear H;have H:=H9;clear H9;clear hk hN;refine jj (c:=(Pk.cells q t)) (t:=36) F H rfl (qW rfl (F.e rfl) (qX _ _)) ?_;clear F A;intro b3 W A hk hN H9 F;clear H;have H:=H9;clear H9;clear hk hN;refine zd ?_;intro A F;refine nn (hK1 _ _) ?_;refine sg λK4 hK4=>?_
 iterate 4 (refine zd ?_;intro A F)
 refine zb (z8 Tryz.underlying4) ?_;intro A F;refine zd ?_;intro A F
 iterate 4 (refine zg ?_;intro A F)
 refine zgb (jx (i:=p.willQoS) (j:=q.willQoS)) ?_;intro A F;refine j7 F rfl (jI rfl (F.e rfl) (λhx=>(F.o rfl hx)) rfl) ?_;intro A F;refine zd ?_;intro A F
 iterate 4 (refine zg ?_;intro A F)
 refine zgb (z8 Tryz.underlying4) ?_;intro A F;refine j7 F rfl (jI rfl (F.e rfl) (λhx=>(F.o rfl hx)) rfl) ?_;intro A F;refine zd ?_;intro A F
 iterate 4 (refine zg ?_;intro A F)
 refine zgb (vJ) ?_;intro A F;refine j7 F rfl (jI rfl (F.e rfl) (λhx=>(F.o rfl hx)) rfl) ?_;intro A F;refine zd ?_;intro A F
 iterate 4 (refine zg ?_;intro A F)
 refine zgb (vJ) ?_;intro A F;refine j7 F rfl (jI rfl (F.e rfl) (λhx=>(F.o rfl hx)) rfl) ?_;intro A F;refine zd ?_;intro A F
 iterate 4 (refine zg ?_;intro A F)
 refine qU F H rfl (qI F rfl rfl rfl) (λhG=>(j6 rfl rfl (j0 (F.o rfl hG) (j0 (F.o rfl hG) j9)) jKt)) (λhG=>j7v s.wa s.wc p.willProps t.wa t.wc q.willProps _ (hp.kept H.k).hw (hq.kept H.k).hw hpf.hw hqf.hw) ?_;clear F H A;intro W A hk H F;clear hk;refine j7 F rfl (jI rfl (F.e rfl) (λhx=>(F.o rfl hx)) rfl) ?_;intro A F;refine zd ?_;intro A F;refine nn (hK4 _ _) ?_;refine jH ?_;refine (show bodyPost _ Tryz.f73 RR Exit.ret _ _ from zr ?_);exact rb (by unfold jB0;first|rfl|simp[Bool.and_assoc])
theorem jAj (p q:Pk) (s t:Sl) (w:World) (hp:p.At s w) (hq:q.At t w) (hpf:p.few) (hqf:q.few) :
  Calls Tryz.prog 58 #[p.val s,q.val t] w λe w'=>e=.returned (.bool (j47 p q))∧Kept No w w':=by
 have hm1:=hpf.hf;have hm2:=hqf.hf;let RR:Ending→World→Prop:=λe w'=>e=.returned (.bool (j47 p q))∧Kept No w w'
 go_enter Tryz.func58,Tryz.ntmps58
 generalize hA:({tmps:=_,defers:=[]}:Act)=A;have F:Fr A 141 [(1,(Pk.val q t)),(0,(Pk.val p s))]:=by rw[← hA];exact (Fr.cons (i:=1) (v:=(Pk.val q t)) (Fr.cons (i:=0) (v:=(Pk.val p s)) (Fr.nil0 rfl rfl) rfl) rfl)
 clear hA;have H:=Hp.start w;refine sg λK1 hK1=>?_;refine jj (c:=(Pk.cells p s)) (t:=36) F H rfl (qW rfl (F.e rfl) (qX _ _)) ?_;clear F A;intro b2 W A hk hN H9 F;clear H;have H:=H9;clear H9;clear hk hN;refine jj (c:=(Pk.cells q t)) (t:=36) F H rfl (qW rfl (F.e rfl) (qX _ _)) ?_;clear F A;intro b3 W A hk hN H9 F;clear H;have H:=H9;clear H9;clear hk hN;refine zd ?_;intro A F;refine nn (hK1 _ _) ?_;refine sg λK4 hK4=>?_
 iterate 4 (refine zd ?_;intro A F)
 refine zb (jL) ?_;intro A F;refine zd ?_;intro A F
 iterate 4 (refine zg ?_;intro A F)
 refine zgb (jx (i:=p.id) (j:=q.id)) ?_;intro A F;refine j7 F rfl (jI rfl (F.e rfl) (λhx=>(F.o rfl hx)) rfl) ?_;intro A F;refine zd ?_;intro A F
 iterate 4 (refine zg ?_;intro A F)
 refine zgb (z8 Tryz.underlying4) ?_;intro A F;refine j7 F rfl (jI rfl (F.e rfl) (λhx=>(F.o rfl hx)) rfl) ?_;intro A F;refine zd ?_;intro A F
 iterate 4 (refine zg ?_;intro A F)
 refine zgb (jx (i:=p.code) (j:=q.code)) ?_;intro A F;refine j7 F rfl (jI rfl (F.e rfl) (λhx=>(F.o rfl hx)) rfl) ?_;intro A F;refine zd ?_;intro A F
 iterate 4 (refine zg ?_;intro A F)
 refine zgb (z8 Tryz.underlying4) ?_;intro A F;refine j7 F rfl (jI rfl (F.e rfl) (λhx=>(F.o rfl hx)) rfl) ?_;intro A F;refine zd ?_;intro A F
 iterate 4 (refine zg ?_;intro A F)
 refine zgb (jx (i:=p.qos) (j:=q.qos)) ?_;intro A F;refine j7 F rfl (jI rfl (F.e rfl) (λhx=>(F.o rfl hx)) rfl) ?_;intro A F;refine zd ?_;intro A F
 iterate 4 (refine zg ?_;intro A F)
 refine zgb (z8 Tryz.underlying4) ?_;intro A F;refine j7 F rfl (jI rfl (F.e rfl) (λhx=>(F.o rfl hx)) rfl) ?_;intro A F;refine zd ?_;intro A F
 iterate 4 (refine zg ?_;intro A F)
 refine zgb (vJ) ?_;intro A F;refine j7 F rfl (jI rfl (F.e rfl) (λhx=>(F.o rfl hx)) rfl) ?_;intro A F;refine zd ?_;intro A F
 iterate 4 (refine zg ?_;intro A F)
 refine zgb (vJ) ?_;intro A F;refine j7 F rfl (jI rfl (F.e rfl) (λhx=>(F.o rfl hx)) rfl) ?_;intro A F;refine zd ?_;intro A F
 iterate 4 (refine zg ?_;intro A F)
 refine zgb (z8 Tryz.underlying4) ?_;intro A F;refine j7 F rfl (jI rfl (F.e rfl) (λhx=>(F.o rfl hx)) rfl) ?_;intro A F;refine zd ?_;intro A F
 iterate 4 (refine zg ?_;intro A F)
 refine zgb (jx (i:=p.keep) (j:=q.keep)) ?_;intro A F;refine j7 F rfl (jI rfl (F.e rfl) (λhx=>(F.o rfl hx)) rfl) ?_;intro A F;refine zd ?_;intro A F
 iterate 4 (refine zg ?_;intro A F)
 refine zgb (vJ) ?_;intro A F;refine j7 F rfl (jI rfl (F.e rfl) (λhx=>(F.o rfl hx)) rfl) ?_;intro A F;refine zd ?_;intro A F;refine qQ F rfl (qI F rfl rfl rfl) (λhG=>(jA rfl (F.e rfl) (jE ((Pk.cells p s)) rfl (jY _) (jQ _) (λi=>H.cs 1 rfl i)))) ?_;intro A F;refine qQ F rfl (qI F rfl rfl rfl) (λhG=>(jA rfl (F.e rfl) (jE ((Pk.cells q t)) rfl (jY _) (jQ _) (λi=>H.cs 0 rfl i)))) ?_;intro A F;refine qU F H rfl (qI F rfl rfl rfl) (λhG=>(j6 rfl rfl (j0 (F.o rfl hG) (j0 (F.o rfl hG) j9)) jNt)) (λhG=>j75 p q s t _ (hp.kept H.k) (hq.kept H.k) hpf hqf) ?_;clear F H A;intro W A hk H F;clear hk;refine j7 F rfl (jI rfl (F.e rfl) (λhx=>(F.o rfl hx)) rfl) ?_;intro A F;refine zd ?_;intro A F
 iterate 4 (refine zg ?_;intro A F)
 refine zgb (z8 Tryz.underlying4) ?_;intro A F;refine j7 F rfl (jI rfl (F.e rfl) (λhx=>(F.o rfl hx)) rfl) ?_;intro A F;refine zd ?_;intro A F
 iterate 4 (refine zg ?_;intro A F)
 refine zgb (vJ) ?_;intro A F;refine j7 F rfl (jI rfl (F.e rfl) (λhx=>(F.o rfl hx)) rfl) ?_;intro A F;refine zd ?_;intro A F
 iterate 4 (refine zg ?_;intro A F)
 refine zgb (z8 Tryz.underlying4) ?_;intro A F;refine j7 F rfl (jI rfl (F.e rfl) (λhx=>(F.o rfl hx)) rfl) ?_;intro A F;refine zd ?_;intro A F
 iterate 4 (refine zg ?_;intro A F)
 refine zgb (vJ) ?_;intro A F;refine j7 F rfl (jI rfl (F.e rfl) (λhx=>(F.o rfl hx)) rfl) ?_;intro A F;refine zd ?_;intro A F
 iterate 4 (refine zg ?_;intro A F)
 refine qU F H rfl (qI F rfl rfl rfl) (λhG=>(j6 rfl rfl (j0 (F.o rfl hG) (j0 (F.o rfl hG) j9)) jNu)) (λhG=>jBb s.fa s.fc p.filters t.fa t.fc q.filters _ (hp.kept H.k).hf (hq.kept H.k).hf hpf.hf hqf.hf) ?_;clear F H A;intro W A hk H F;clear hk;refine j7 F rfl (jI rfl (F.e rfl) (λhx=>(F.o rfl hx)) rfl) ?_;intro A F;refine zd ?_;intro A F
 iterate 4 (refine zg ?_;intro A F)
 refine qU F H rfl (qI F rfl rfl rfl) (λhG=>(j6 rfl rfl (j0 (F.o rfl hG) (j0 (F.o rfl hG) j9)) jNv)) (λhG=>jB5 s.ca s.cc p.codes t.ca t.cc q.codes _ (hp.kept H.k).hc (hq.kept H.k).hc hpf.hc hqf.hc) ?_;clear F H A;intro W A hk H F;clear hk;refine j7 F rfl (jI rfl (F.e rfl) (λhx=>(F.o rfl hx)) rfl) ?_;intro A F;refine zd ?_;intro A F
 iterate 4 (refine zg ?_;intro A F)
 refine qU F H rfl (qI F rfl rfl rfl) (λhG=>(j6 rfl rfl (j0 (F.o rfl hG) (j0 (F.o rfl hG) j9)) jKt)) (λhG=>j7v s.pa s.pc p.props t.pa t.pc q.props _ (hp.kept H.k).hp (hq.kept H.k).hp hpf.hp hqf.hp) ?_;clear F H A;intro W A hk H F;clear hk;refine j7 F rfl (jI rfl (F.e rfl) (λhx=>(F.o rfl hx)) rfl) ?_;intro A F;refine zd ?_;intro A F;refine nn (hK4 _ _) ?_;refine jH ?_;refine (show bodyPost _ Tryz.f58 RR Exit.ret _ _ from zr ?_);exact rb (by unfold j47;first|rfl|simp[Bool.and_assoc])
theorem jN8 {f g:Fi} (h:f.text=g.text∧f.opt=g.opt):f=g:=by cases f;cases g;simpa using h
theorem jOw (i1 i2:Nat) (a1 a2:ByteArray) (w:World) {x y:Operand}:(do eqGuard .neq 51 x y (.agg #[.string a1,.int .u8 i1]) (.agg #[.string a2,.int .u8 i2]);binOp .neq 51 (.agg #[.string a1,.int .u8 i1]) (.agg #[.string a2,.int .u8 i2]):Sem Value).run Tryz.prog w=.ok (.bool (!decide ((⟨a1,i1⟩:Fi)=⟨a2,i2⟩))) w:=by
 have h:=jM6 i1 i2 a1 a2 w;simp[eqGuard,h]
theorem jFe {C D:List UInt8} (h:(⟨C.toArray⟩:ByteArray)=⟨D.toArray⟩):C=D:=by simpa using h
theorem jEq {p q:Pk} (h1:p.filters=q.filters) (h2:(⟨p.codes.toArray⟩:ByteArray)=⟨q.codes.toArray⟩) (h3:p.props=q.props) (h4:p.willProps=q.willProps) (h5:(((((((((((!decide (p.kind=q.kind))||(!(p.dup == q.dup)))||(!(p.retain == q.retain)))||(!decide (p.qos=q.qos)))||(!decide (p.id=q.id)))||(!(p.clean == q.clean)))||(!decide (p.keep=q.keep)))||(!decide (p.client=q.client)))||(!(p.hasWill == q.hasWill)))||(!(p.hasUser == q.hasUser)))||(!(p.hasPass == q.hasPass)))=false) :
  ((((((((((decide (p.willQoS=q.willQoS))&&(p.willRetain == q.willRetain))&&(decide (p.willTopic=q.willTopic)))&&(decide (p.willLoad=q.willLoad)))&&(decide (p.user=q.user)))&&(decide (p.pass=q.pass)))&&(p.present == q.present))&&(decide (p.code=q.code)))&&(decide (p.topic=q.topic)))&&(decide (p.load=q.load)))=decide (p=q):=by
 have hcc:=jFe h2;clear h2;obtain ⟨k1,d1,r1,o1,i1,c1,e1,l1,m1,u1,a1,g1,n1,P1,t1,b1,s1,v1,w1,z1,j1,x1,F1,C1,Q1⟩:=p;obtain ⟨k2,d2,r2,o2,i2,c2,e2,l2,m2,u2,a2,g2,n2,P2,t2,b2,s2,v2,w2,z2,j2,x2,F2,C2,Q2⟩:=q;dsimp only at h1 hcc h3 h4 h5 ⊢;subst h1 hcc h3 h4;simp only[Bool.or_eq_false_iff,Bool.not_eq_false',dE9,beq_iff_eq]at h5;rw[Bool.eq_iff_iff];simp only[aE9,dE9,beq_iff_eq,Pk.mk.injEq]
 grind
theorem j96 (p q:Pk) (s t:Sl) (w:World) (hp:p.At s w) (hq:q.At t w) (hpf:p.few) (hqf:q.few) (hs:s.ok) (ht:t.ok) :
  Calls Tryz.prog 8 #[p.val s,q.val t] w λe w'=>e=.returned (.bool (decide (p=q)))∧Kept No w w':=by
 have hm1:=hpf.hf;have hm2:=hqf.hf;let RR:Ending→World→Prop:=λe w'=>e=.returned (.bool (decide (p=q)))∧Kept No w w'
 go_enter Tryz.func8,Tryz.ntmps8
 generalize hA:({tmps:=_,defers:=[]}:Act)=A;have F:Fr A 199 [(1,(Pk.val q t)),(0,(Pk.val p s))]:=by rw[← hA];exact (Fr.cons (i:=1) (v:=(Pk.val q t)) (Fr.cons (i:=0) (v:=(Pk.val p s)) (Fr.nil0 rfl rfl) rfl) rfl)
 clear hA;have H:=Hp.start w;refine sg λK1 hK1=>?_;refine jj (c:=(Pk.cells p s)) (t:=27) F H rfl (qW rfl (F.e rfl) (qX _ _)) ?_;clear F A;intro b2 W A hk hN H9 F;clear H;have H:=H9;clear H9;clear hk hN;refine jj (c:=(Pk.cells q t)) (t:=27) F H rfl (qW rfl (F.e rfl) (qX _ _)) ?_;clear F A;intro b3 W A hk hN H9 F;clear H;have H:=H9;clear H9;clear hk hN;refine zd ?_;intro A F;refine nn (hK1 _ _) ?_;refine wp_seq_k λK4 hK4=>?_;refine sg λK5 hK5=>?_
 iterate 2 (refine zd ?_;intro A F)
 refine j7 F rfl (qH rfl (j0 (F.e rfl) j9) (qK Tryz.underlying24)) ?_;intro A F
 iterate 2 (refine zd ?_;intro A F)
 refine j7 F rfl (qH rfl (j0 (F.e rfl) j9) (qK Tryz.underlying24)) ?_;intro A F;refine zb (vV (i:=p.filters.length) (j:=q.filters.length)) ?_;intro A F;refine zd ?_;intro A F
 iterate 2 (refine zg ?_;intro A F)
 refine qQ F rfl (zS F rfl rfl rfl) (λhG=>(vZ rfl (F.o rfl hG) (cvB hp.hc hs.c _ H.k))) ?_;intro A F
 iterate 2 (refine zg ?_;intro A F)
 refine qQ F rfl (zS F rfl rfl rfl) (λhG=>(vZ rfl (F.o rfl hG) (cvB hq.hc ht.c _ H.k))) ?_;intro A F;refine zgb (j4w) ?_;intro A F;refine j7 F rfl (qL rfl (F.e rfl) (λhx=>(F.o rfl (gnt hx))) rfl) ?_;intro A F;refine zd ?_;intro A F
 iterate 4 (refine zg ?_;intro A F)
 refine qU F H rfl (zS F rfl rfl rfl) (λhG=>(j6 rfl rfl (j0 (F.o rfl hG) (j0 (F.o rfl hG) j9)) jKq)) (λhG=>j7y s.pa s.pc p.props t.pa t.pc q.props _ (hp.kept H.k).hp (hq.kept H.k).hp hpf.hp hqf.hp) ?_;clear F H A;intro W A hk H F;clear hk;refine zg ?_;intro A F;refine j7 F rfl (qL rfl (F.e rfl) (λhx=>(F.o rfl (gnt hx))) rfl) ?_;intro A F;refine zd ?_;intro A F
 iterate 4 (refine zg ?_;intro A F)
 refine qU F H rfl (zS F rfl rfl rfl) (λhG=>(j6 rfl rfl (j0 (F.o rfl hG) (j0 (F.o rfl hG) j9)) jKq)) (λhG=>j7y s.wa s.wc p.willProps t.wa t.wc q.willProps _ (hp.kept H.k).hw (hq.kept H.k).hw hpf.hw hqf.hw) ?_;clear F H A;intro W A hk H F;clear hk;refine zg ?_;intro A F;refine j7 F rfl (qL rfl (F.e rfl) (λhx=>(F.o rfl (gnt hx))) rfl) ?_;intro A F;refine nn (hK5 _ _) ?_;refine zc (λhb8=>?_) (λhb8=>?_)
 ·skip
  refine sg λK9 hK9=>?_;refine zd ?_;intro A F;refine nn (hK9 _ _) ?_;refine jH ?_;refine (show bodyPost _ Tryz.f8 RR Exit.ret _ _ from zr ?_);exact rb (decide_eq_false (λe=>by subst e;have h8:=hb8;simp at h8)).symm
 have h0:=hb8;simp only[Bool.or_eq_false_iff,Bool.not_eq_false',dE9]at h0;obtain ⟨⟨⟨hlen,hcod⟩,hpro⟩,hwil⟩:=h0;refine wp_skip (hK4 _ _ ?_);refine wp_seq_k λK10 hK10=>?_;refine sg λK11 hK11=>?_;refine zd ?_;intro A F;refine nn (hK11 _ _) ?_;refine wp_block ?_;refine xf (λ(j:Nat) A W=>Fr A 199 [(2,(.pointer (some ⟨b2,0,none⟩))),(3,(.pointer (some ⟨b3,0,none⟩))),(5,(.int .i64 ((j:Int))))]∧Hp w W [⟨b3,27,(Pk.cells q t)⟩,⟨b2,27,(Pk.cells p s)⟩]∧(j≤p.filters.length∧p.filters.take j=q.filters.take j)) (λj=>p.filters.length - j) 0 ⟨(((F.nil.cons (vK (F.g 5 _ rfl) (by rfl))).cons (F.g 3 _ rfl)).cons (F.g 2 _ rfl)),H,⟨by omega,by simp⟩⟩ (λj A W hI J12 hJ12=>?_);clear F H;obtain ⟨F,H,hj,hall⟩:=hI
 by_cases hlt:j<p.filters.length
 ·skip
  have ht13:decide (j<p.filters.length)=true:=decide_eq_true hlt;have hlt2:j<q.filters.length:=by rw[← hlen];exact hlt
  obtain ⟨b9,off9,ha9,_,_,_⟩:=(hp.kept H.k).hf.filt hlt;obtain ⟨b8,off8,ha8,_,_,_⟩:=(hq.kept H.k).hf.filt hlt2;refine wp_seq_k λK14 hK14=>?_;refine sg λK15 hK15=>?_
  iterate 3 (refine zd ?_;intro A F)
  refine j7 F rfl (qH rfl (j0 (F.e rfl) j9) (qK Tryz.underlying24)) ?_;intro A F;refine zb (vB (i:=j) (j:=p.filters.length)) ?_;intro A F;replace F:=F.hd (congrArg Value.bool ht13);refine nn (hK15 _ _) ?_;refine wp_cond_true (F.e rfl) ?_;refine wp_skip (hK14 _ _ ?_);refine wp_seq_k λK16 hK16=>?_;refine wp_block ?_;refine wp_seq_k λK17 hK17=>?_;refine wp_region_held_drew (S:=λwx=>Hp _ wx _) (by kernel_rfl) H.drew (λH9=>?_);clear H;have H:=H9;clear H9;generalize World.drew _=W at *;refine td 0 ?_;intro A F;refine td 1 ?_;intro A F;refine td 2 ?_;intro A F;refine jG (i:=3) F rfl rfl (by kernel_rfl) (λ_ _ _ h=>h) (H) (λwz H=>(qJ rfl ((F.e rfl).trans (show _=Value.slice (some ⟨b9,off9,none⟩) p.filters.length s.fc from by first|(rw[← ha9];done)|(rw[← ha9];rfl))) (F.e rfl) (vc Tryz.underlying24 (xe _) hlt))) ?_;intro A F;refine jG (v:=(.agg #[(.string ((p.filters[j]).text)),(.int .u8 (((p.filters[j]).opt:Int)))])) (i:=4) F rfl rfl (by kernel_rfl) (λ_ _ _ h=>h) (H) (λwz H=>(jA rfl (F.e rfl) (j2s (jCu _) (xe _) ((hp.kept H.k).hf.filt_t ha9 hlt) ((hp.kept H.k).hf.filt_o ha9 hlt)))) ?_;intro A F;refine td 5 ?_;intro A F;refine td 6 ?_;intro A F;refine td 7 ?_;intro A F;refine jG (i:=8) F rfl rfl (by kernel_rfl) (λ_ _ _ h=>h) (H) (λwz H=>(qJ rfl ((F.e rfl).trans (show _=Value.slice (some ⟨b8,off8,none⟩) q.filters.length t.fc from by first|(rw[← ha8];done)|(rw[← ha8];rfl))) (F.e rfl) (vc Tryz.underlying24 (xe _) hlt2))) ?_;intro A F;refine jG (v:=(.agg #[(.string ((q.filters[j]).text)),(.int .u8 (((q.filters[j]).opt:Int)))])) (i:=9) F rfl rfl (by kernel_rfl) (λ_ _ _ h=>h) (H) (λwz H=>(jA rfl (F.e rfl) (j2s (jCu _) (xe _) ((hq.kept H.k).hf.filt_t ha8 hlt2) ((hq.kept H.k).hf.filt_o ha8 hlt2)))) ?_;intro A F;refine jG (v:=(.bool (!decide ((⟨(p.filters[j]).text,(p.filters[j]).opt⟩:Fi)=⟨(q.filters[j]).text,(q.filters[j]).opt⟩)))) (i:=10) F rfl rfl (by kernel_rfl) (λ_ _ _ h=>h) (H) (λwz H=>(jF rfl (F.e rfl) (F.e rfl) (jOw _ _ _ _ _))) ?_;intro A F;refine wpAnyH_done (by kernel_rfl) ?_ _;refine hK17 _ _ ?_;refine zc (λhb18=>?_) (λhb18=>?_)
  ·skip
   refine sg λK19 hK19=>?_;refine zd ?_;intro A F;refine nn (hK19 _ _) ?_;refine jH ?_;refine (show bodyPost _ Tryz.f8 RR Exit.ret _ _ from zr ?_);exact rb (decide_eq_false (λe=>by subst e;have h8:=hb18;simp at h8)).symm
  refine wp_skip (hK16 _ _ ?_);refine jB ?_;refine zd ?_;intro A F;refine j7 F rfl (jF rfl (F.e rfl) jD (jd (jK (by omega) (by omega)))) ?_;intro A F;refine zd ?_;intro A F;refine wpList_nil ?_;exact hJ12 ((j+1)) _ _ (by omega) ⟨(((F.nil.cons (vK (F.g 5 _ rfl) (by simp))).cons (F.g 3 _ rfl)).cons (F.g 2 _ rfl)),H,⟨by omega,j2e hall hlt hlt2 (jN8 (by have h8:=hb18;simpa using h8))⟩⟩
 have ht20:decide (j<p.filters.length)=false:=decide_eq_false hlt;have hfe:p.filters=q.filters:=by rw[List.take_of_length_le (by omega),List.take_of_length_le (by omega)]at hall;exact hall
 refine wp_seq_k λK21 hK21=>?_;refine sg λK22 hK22=>?_
 iterate 3 (refine zd ?_;intro A F)
 refine j7 F rfl (qH rfl (j0 (F.e rfl) j9) (qK Tryz.underlying24)) ?_;intro A F;refine zb (vB (i:=j) (j:=p.filters.length)) ?_;intro A F;replace F:=F.hd (congrArg Value.bool ht20);refine nn (hK22 _ _) ?_;refine wp_cond_false (F.e rfl) ?_;refine wp_exit ?_;refine hK10 _ _ ?_;refine wp_seq_k λK23 hK23=>?_;refine sg λK24 hK24=>?_
 iterate 4 (refine zd ?_;intro A F)
 refine zb (jBz) ?_;intro A F;refine zd ?_;intro A F
 iterate 4 (refine zg ?_;intro A F)
 refine zgb (j0y Tryz.underlying4) ?_;intro A F;refine j7 F rfl (qL rfl (F.e rfl) (λhx=>(F.o rfl (gnt hx))) rfl) ?_;intro A F;refine zd ?_;intro A F
 iterate 4 (refine zg ?_;intro A F)
 refine zgb (j0y Tryz.underlying4) ?_;intro A F;refine j7 F rfl (qL rfl (F.e rfl) (λhx=>(F.o rfl (gnt hx))) rfl) ?_;intro A F;refine zd ?_;intro A F
 iterate 4 (refine zg ?_;intro A F)
 refine zgb (vV (i:=p.qos) (j:=q.qos)) ?_;intro A F;refine j7 F rfl (qL rfl (F.e rfl) (λhx=>(F.o rfl (gnt hx))) rfl) ?_;intro A F;refine zd ?_;intro A F
 iterate 4 (refine zg ?_;intro A F)
 refine zgb (vV (i:=p.id) (j:=q.id)) ?_;intro A F;refine j7 F rfl (qL rfl (F.e rfl) (λhx=>(F.o rfl (gnt hx))) rfl) ?_;intro A F;refine zd ?_;intro A F
 iterate 4 (refine zg ?_;intro A F)
 refine zgb (j0y Tryz.underlying4) ?_;intro A F;refine j7 F rfl (qL rfl (F.e rfl) (λhx=>(F.o rfl (gnt hx))) rfl) ?_;intro A F;refine zd ?_;intro A F
 iterate 4 (refine zg ?_;intro A F)
 refine zgb (vV (i:=p.keep) (j:=q.keep)) ?_;intro A F;refine j7 F rfl (qL rfl (F.e rfl) (λhx=>(F.o rfl (gnt hx))) rfl) ?_;intro A F;refine zd ?_;intro A F
 iterate 4 (refine zg ?_;intro A F)
 refine zgb (j4w) ?_;intro A F;refine j7 F rfl (qL rfl (F.e rfl) (λhx=>(F.o rfl (gnt hx))) rfl) ?_;intro A F;refine zd ?_;intro A F
 iterate 4 (refine zg ?_;intro A F)
 refine zgb (j0y Tryz.underlying4) ?_;intro A F;refine j7 F rfl (qL rfl (F.e rfl) (λhx=>(F.o rfl (gnt hx))) rfl) ?_;intro A F;refine zd ?_;intro A F
 iterate 4 (refine zg ?_;intro A F)
 refine zgb (j0y Tryz.underlying4) ?_;intro A F;refine j7 F rfl (qL rfl (F.e rfl) (λhx=>(F.o rfl (gnt hx))) rfl) ?_;intro A F;refine zd ?_;intro A F
 iterate 4 (refine zg ?_;intro A F)
 refine zgb (j0y Tryz.underlying4) ?_;intro A F;refine j7 F rfl (qL rfl (F.e rfl) (λhx=>(F.o rfl (gnt hx))) rfl) ?_;intro A F;refine nn (hK24 _ _) ?_;refine zc (λhb25=>?_) (λhb25=>?_)
 ·skip
  refine sg λK26 hK26=>?_;refine zd ?_;intro A F;refine nn (hK26 _ _) ?_;refine jH ?_;refine (show bodyPost _ Tryz.f8 RR Exit.ret _ _ from zr ?_);exact rb (decide_eq_false (λe=>by subst e;have h8:=hb25;simp at h8)).symm
 refine wp_skip (hK23 _ _ ?_);refine sg λK27 hK27=>?_
 iterate 4 (refine zd ?_;intro A F)
 refine zb (jx (i:=p.willQoS) (j:=q.willQoS)) ?_;intro A F;refine zd ?_;intro A F
 iterate 4 (refine zg ?_;intro A F)
 refine zgb (z8 Tryz.underlying4) ?_;intro A F;refine j7 F rfl (jI rfl (F.e rfl) (λhx=>(F.o rfl hx)) rfl) ?_;intro A F;refine zd ?_;intro A F
 iterate 4 (refine zg ?_;intro A F)
 refine zgb (vJ) ?_;intro A F;refine j7 F rfl (jI rfl (F.e rfl) (λhx=>(F.o rfl hx)) rfl) ?_;intro A F;refine zd ?_;intro A F
 iterate 4 (refine zg ?_;intro A F)
 refine zgb (vJ) ?_;intro A F;refine j7 F rfl (jI rfl (F.e rfl) (λhx=>(F.o rfl hx)) rfl) ?_;intro A F;refine zd ?_;intro A F
 iterate 4 (refine zg ?_;intro A F)
 refine zgb (vJ) ?_;intro A F;refine j7 F rfl (jI rfl (F.e rfl) (λhx=>(F.o rfl hx)) rfl) ?_;intro A F;refine zd ?_;intro A F
 iterate 4 (refine zg ?_;intro A F)
 refine zgb (vJ) ?_;intro A F;refine j7 F rfl (jI rfl (F.e rfl) (λhx=>(F.o rfl hx)) rfl) ?_;intro A F;refine zd ?_;intro A F
 iterate 4 (refine zg ?_;intro A F)
 refine zgb (z8 Tryz.underlying4) ?_;intro A F;refine j7 F rfl (jI rfl (F.e rfl) (λhx=>(F.o rfl hx)) rfl) ?_;intro A F;refine zd ?_;intro A F
 iterate 4 (refine zg ?_;intro A F)
 refine zgb (jx (i:=p.code) (j:=q.code)) ?_;intro A F;refine j7 F rfl (jI rfl (F.e rfl) (λhx=>(F.o rfl hx)) rfl) ?_;intro A F;refine zd ?_;intro A F
 iterate 4 (refine zg ?_;intro A F)
 refine zgb (vJ) ?_;intro A F;refine j7 F rfl (jI rfl (F.e rfl) (λhx=>(F.o rfl hx)) rfl) ?_;intro A F;refine zd ?_;intro A F
 iterate 4 (refine zg ?_;intro A F)
 refine zgb (vJ) ?_;intro A F;refine j7 F rfl (jI rfl (F.e rfl) (λhx=>(F.o rfl hx)) rfl) ?_;intro A F;refine zd ?_;intro A F;refine nn (hK27 _ _) ?_;refine jH ?_;refine (show bodyPost _ Tryz.f8 RR Exit.ret _ _ from zr ?_);exact rb (jEq hfe hcod hpro hwil hb25)
end Go.Proofs.YtkochkhfbhjicaaGreatDoor
