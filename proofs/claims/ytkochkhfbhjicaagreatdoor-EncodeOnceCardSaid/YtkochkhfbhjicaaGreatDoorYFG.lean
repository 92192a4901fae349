import Derived.Test.YtkochkhfbhjicaaGreatDoorYFE
import Derived.Deep.LoopGhost
import Derived.Test.YtkochkhfbhjicaaGreatDoorYFD
import Derived.Test.YtkochkhfbhjicaaGreatDoorYFC
import Derived.Test.YtkochkhfbhjicaaGreatDoorYFF
namespace Go.Proofs.YtkochkhfbhjicaaGreatDoor
open Go.RowKit
set_option linter.unusedVariables false
set_option linter.unusedSimpArgs false
theorem xl {P:Program} {w:World} {t:TypeId} {k:IntKind} {i j:Nat} {x y:Operand} (hj:j≠0):(do eqGuard .rem t x y (.int k i) (.int k j);binOp .rem t (.int k i) (.int k j):Sem Value).run P w=.ok (.int k ((i % j:Nat):Int)) w :=
 j95 (by omega) rfl
theorem j4v {P:Program} {w:World} {t:TypeId} {k:IntKind} {i j:Nat} {x y:Operand} (hj:j≠0) (h:k.wrap ((i / j:Nat):Int)=((i / j:Nat):Int)):(do eqGuard .quo t x y (.int k i) (.int k j);binOp .quo t (.int k i) (.int k j):Sem Value).run P w=.ok (.int k ((i / j:Nat):Int)) w :=
 jMe (by omega) (by rw[Int.tdiv_eq_ediv_of_nonneg (by omega),← Int.natCast_ediv];exact h)
def lk:List (Nat × Value)→Nat→Option Value
 | [],_=>none
 | (j,v) :: l,i=>match Nat.beq i j with
  | true=>some v
  | false=>lk l i
structure Fr (a:Act) (N:Nat) (L:List (Nat × Value)):Prop where
 z:a.tmps.size=N
 d:a.defers=[]
 g:∀ i v,lk L i=some v→a.tmps[i]?=some v
def og (b:Bool) (v:Value):Value:=match b with
 | true=>v
 | false=>undef
section
variable {P:Program} {ops:Array Oper} {Q:Exit→Act→World→Prop} {a:Act} {w w0:World} {rest:List Oper} {N n:Nat} {L:List (Nat × Value)} {v:Value} {ty:TypeId} {ps:String} {af:Array Edge} {op:Op} {gd:Nat × Bool} {G X Y:Bool}
theorem Fr.nil0 (z:a.tmps.size=N) (d:a.defers=[]):Fr a N []:=⟨z,d,λi v h=>by simp[lk]at h⟩
theorem Fr.nil (F:Fr a N L):Fr a N []:=Fr.nil0 F.z F.d
theorem Fr.cons {i:Nat} (F:Fr a N L) (h:a.tmps[i]?=some v):Fr a N ((i,v) :: L):=by
 refine ⟨F.z,F.d,λj u hu=>?_⟩;simp only[lk]at hu;cases hb:Nat.beq j i with
 | true =>
  rw[hb]at hu
  have:=Nat.eq_of_beq_eq_true hb
  subst this;injection hu with hu;rw[← hu];exact h
 | false=>rw[hb]at hu;exact F.g j u hu
theorem Fr.put (F:Fr a N L) (hn:Nat.blt n N=true) (v:Value):Fr (a.put (some n) v) N ((n,v) :: L):=by
 have hn':n<N:=by simpa [Nat.blt_eq] using hn
 obtain ⟨h1,h2,h3,h4⟩:=jM1 (v:=v) F.z hn';refine ⟨h1,h4.trans F.d,λi u hu=>?_⟩;simp only[lk]at hu;cases hb:Nat.beq i n with
 | true =>
  rw[hb]at hu
  have:=Nat.eq_of_beq_eq_true hb
  subst this;injection hu with hu;rw[h2,hu]
 | false =>
  rw[hb]at hu;rw[h3 i (λe=>by subst e;simp at hb)];exact F.g i u hu
theorem Fr.e {i:Nat} (F:Fr a N L) (h:lk L i=some v):a.eval (.tmp i)=v:=jOm (F.g i v h)
theorem Fr.o {i:Nat} (F:Fr a N L) (h:lk L i=some (og G v)) (hG:G=true):a.eval (.tmp i)=v:=by subst hG;exact F.e h
theorem Fr.hd {i:Nat} {u:Value} (F:Fr a N ((i,u) :: L)) (e:u=v):Fr a N ((i,v) :: L):=e▸F
theorem ga1 (h:(X&&Y)=true):X=true:=by cases X<;>simp_all
theorem ga2 (h:(X&&Y)=true):Y=true:=by cases Y<;>simp_all
theorem gai (h:X=true) (k:Y=true):(X&&Y)=true:=by rw[h,k];rfl
theorem gnf (h:(!X)=true):X=false:=by cases X<;>simp_all
theorem gnz (h:(!X)=false):X=true:=by cases X<;>simp_all
theorem gnt (h:X=false):(!X)=true:=by rw[h];rfl
theorem qI {o:Oper} {j t:Nat} (F:Fr a N L) (hg:o.guard=some (j,true)) (hj:(ops[j]?).bind (·.dst)=some t) (h:lk L t=some (.bool X)):Region.wanted o (yielded ops a.tmps)=X:=by
 rw[jKz hg hj (F.g t _ h)];cases X<;>rfl
theorem zS {o:Oper} {j t:Nat} (F:Fr a N L) (hg:o.guard=some (j,false)) (hj:(ops[j]?).bind (·.dst)=some t) (h:lk L t=some (.bool X)):Region.wanted o (yielded ops a.tmps) = !X:=by
 rw[jKz hg hj (F.g t _ h)];cases X<;>rfl
theorem jOq {o:Oper} {j t:Nat} {want:Bool} (F:Fr a N L) (hg:o.guard=some (j,want)) (hj:(ops[j]?).bind (·.dst)=some t) (h:lk L t=some undef):Region.wanted o (yielded ops a.tmps)=false:=jOo hg hj (F.g t _ h)
theorem j2v {o:Oper} {j t:Nat} (F:Fr a N L) (hg:o.guard=some (j,true)) (hj:(ops[j]?).bind (·.dst)=some t) (h:lk L t=some (og G (.bool X))):Region.wanted o (yielded ops a.tmps)=(G&&X):=by
 cases G with
 | true=>rw[Bool.true_and];exact qI F hg hj h
 | false=>exact jOq F hg hj h
theorem j5w {o:Oper} {j t:Nat} (F:Fr a N L) (hg:o.guard=some (j,false)) (hj:(ops[j]?).bind (·.dst)=some t) (h:lk L t=some (og G (.bool X))):Region.wanted o (yielded ops a.tmps)=(G&&!X):=by
 cases G with
 | true=>rw[Bool.true_and];exact zS F hg hj h
 | false=>exact jOq F hg hj h
theorem j7 {w':World} (F:Fr a N L) (hn:Nat.blt n N=true) (h:(execOp a.eval ⟨some n,op,ty,ps,af,none⟩).run P w=.ok (.value v) w') (k:∀ a':Act,Fr a' N ((n,v) :: L)→wpList P ops Q rest a' w'):wpList P ops Q (⟨some n,op,ty,ps,af,none⟩ :: rest) a w:=by
 unfold wpList;rw[if_pos (j2u rfl)];left;unfold Oper.wp;rw[h];exact k _ (F.put hn v)
theorem jGt {w':World} (F:Fr a N L) (hn:Nat.blt n N=true) (hw:Region.wanted ⟨some n,op,ty,ps,af,some gd⟩ (yielded ops a.tmps)=true) (h:(execOp a.eval ⟨some n,op,ty,ps,af,some gd⟩).run P w=.ok (.value v) w') (k:∀ a':Act,Fr a' N ((n,v) :: L)→wpList P ops Q rest a' w'):wpList P ops Q (⟨some n,op,ty,ps,af,some gd⟩ :: rest) a w:=by
 unfold wpList;rw[if_pos hw];left;unfold Oper.wp;rw[h];exact k _ (F.put hn v)
theorem jOr (F:Fr a N L) (hn:Nat.blt n N=true) (hw:Region.wanted ⟨some n,op,ty,ps,af,some gd⟩ (yielded ops a.tmps)=false) (k:∀ a':Act,Fr a' N ((n,undef) :: L)→wpList P ops Q rest a' w):wpList P ops Q (⟨some n,op,ty,ps,af,some gd⟩ :: rest) a w:=by
 unfold wpList;rw[if_neg (by rw[hw];simp)];exact k _ (F.put hn undef)
theorem qQ (F:Fr a N L) (hn:Nat.blt n N=true) (hw:Region.wanted ⟨some n,op,ty,ps,af,some gd⟩ (yielded ops a.tmps)=G) (h:G=true→(execOp a.eval ⟨some n,op,ty,ps,af,some gd⟩).run P w=.ok (.value v) w) (k:∀ a':Act,Fr a' N ((n,og G v) :: L)→wpList P ops Q rest a' w):wpList P ops Q (⟨some n,op,ty,ps,af,some gd⟩ :: rest) a w:=by
 cases G with
 | true=>exact jGt F hn hw (h rfl) k
 | false=>exact jOr F hn hw k
theorem q9 {w':World} (h:(execOp a.eval ⟨none,op,ty,ps,af,none⟩).run P w=.ok .skip w') (k:wpList P ops Q rest a w'):wpList P ops Q (⟨none,op,ty,ps,af,none⟩ :: rest) a w:=jOn (j2u rfl) rfl h k
structure Bk where
 b:Nat
 t:TypeId
 c:Array Value
def Hps (w0 w:World):List Bk→Prop
 | []=>True
 | x :: l=>Blk w x.b x.t x.c∧w0.heap.size≤x.b∧(∀ y∈l,y.b<x.b)∧Hps w0 w l
structure Hp (w0 w:World) (L:List Bk):Prop where
 k:Kept No w0 w
 b:Hps w0 w L
theorem Hp.start (w:World):Hp w w []:=⟨Kept.refl No w,trivial⟩
theorem Hps.kept {S:Nat→Prop} {w':World}:∀ {M:List Bk},Hps w0 w M→Kept S w w'→(∀ y∈M,¬ S y.b)→Hps w0 w' M
 | [],_,_,_=>trivial
 | x :: l,h,hk,hS=>⟨h.1.kept hk (hS x (List.mem_cons_self ..)),h.2.1,h.2.2.1,Hps.kept h.2.2.2 hk (λy hy=>hS y (List.mem_cons_of_mem _ hy))⟩
theorem Hp.kept {w':World} {M:List Bk} (H:Hp w0 w M) (hk:Kept No w w'):Hp w0 w' M:=⟨H.k.trans hk,H.b.kept hk (λ_ _ f=>f)⟩
theorem Hp.tl {M:List Bk} {x:Bk} (H:Hp w0 w (x :: M)):Hp w0 w M:=⟨H.k,H.b.2.2.2⟩
theorem Hp.drew {M:List Bk} (H:Hp w0 w M):Hp w0 w.drew M:=H.kept (Kept.refl No w).drew
theorem Hps.lt {M:List Bk} (H:Hps w0 w M):∀ y∈M,y.b<w.heap.size:=by
 induction M with
 | nil=>intro y hy;cases hy
 | cons x l ih =>
  intro y hy;rcases List.mem_cons.1 hy with rfl|hy
  ·exact H.1.lt
  ·exact ih H.2.2.2 y hy
theorem Hp.new {M:List Bk} (H:Hp w0 w M) (t:TypeId) (c:Array Value):Hp w0 (w.alloc (.cells c t)) (⟨w.heap.size,t,c⟩ :: M) :=
 ⟨H.k.alloc _,Blk.new w t c,H.k.size,λy hy=>H.b.lt y hy,H.b.kept ((Kept.refl No w).alloc _) (λ_ _ f=>f)⟩
theorem Hps.at_ {M:List Bk}:∀ {j:Nat} {x:Bk},Hps w0 w M→M[j]?=some x→Blk w x.b x.t x.c∧w0.heap.size≤x.b:=by
 induction M with
 | nil=>intro j x h e;simp at e
 | cons y l ih =>
  intro j x h e;cases j with
  | zero=>simp at e;subst e;exact ⟨h.1,h.2.1⟩
  | succ j=>exact ih h.2.2.2 (by simpa using e)
theorem Hp.c {M:List Bk} {b i:Nat} {t:TypeId} {c:Array Value} (j:Nat) (H:Hp w0 w M) (hj:M[j]?=some ⟨b,t,c⟩) (hi:c[i]?=some v):w.cell? ⟨b,i,none⟩=some v:=((H.b.at_ hj).1.cell i).trans hi
theorem Hp.cs {M:List Bk} {b:Nat} {t:TypeId} {c:Array Value} (j:Nat) (H:Hp w0 w M) (hj:M[j]?=some ⟨b,t,c⟩) (i:Nat):w.cell? ⟨b,i,none⟩=c[i]?:=(H.b.at_ hj).1.cell i
theorem Hps.turn {w':World} {b:Nat} {t:TypeId} {c c':Array Value}:∀ {M1 M2:List Bk},Hps w0 w (M1++⟨b,t,c⟩ :: M2)→Kept (One b) w w'→Blk w' b t c'→Hps w0 w' (M1++⟨b,t,c'⟩ :: M2)
 | [],M2,h,hk,hB=>⟨hB,h.2.1,h.2.2.1,h.2.2.2.kept hk (λy hy e=>by have e:y.b=b:=e;have:=h.2.2.1 y hy;simp only at this;omega)⟩
 | x :: M1,M2,h,hk,hB=>by
  have hx:b<x.b:=h.2.2.1 ⟨b,t,c⟩ (by simp);refine ⟨h.1.kept hk (λe=>by have e:x.b=b:=e;omega),h.2.1,?_,Hps.turn h.2.2.2 hk hB⟩;intro y hy;rcases List.mem_append.1 hy with hy|hy
  ·exact h.2.2.1 y (List.mem_append.2 (.inl hy))
  ·rcases List.mem_cons.1 hy with rfl|hy
   ·exact hx
   ·exact h.2.2.1 y (List.mem_append.2 (.inr (List.mem_cons_of_mem _ hy)))
theorem Hps.ge {M:List Bk} (H:Hps w0 w M):∀ y∈M,w0.heap.size≤y.b:=by
 induction M with
 | nil=>intro y hy;cases hy
 | cons x l ih =>
  intro y hy;rcases List.mem_cons.1 hy with rfl|hy
  ·exact H.2.1
  ·exact ih H.2.2.2 y hy
theorem Hp.turn {w':World} {b:Nat} {t:TypeId} {c c':Array Value} (M1:List Bk) {M2:List Bk} (H:Hp w0 w (M1++⟨b,t,c⟩ :: M2)) (hk:Kept (One b) w w') (hB:Blk w' b t c'):Hp w0 w' (M1++⟨b,t,c'⟩ :: M2) :=
 ⟨H.k.then hk (λi hi e=>by have e:i=b:=e;have:=H.b.ge ⟨b,t,c⟩ (by simp);simp only at this;omega),H.b.turn hk hB⟩
theorem Hp.blk {M1 M2:List Bk} {b:Nat} {t:TypeId} {c:Array Value} (H:Hp w0 w (M1++⟨b,t,c⟩ :: M2)):Blk w b t c:=(H.b.at_ (j:=M1.length) (x:=⟨b,t,c⟩) (by simp)).1
theorem jj {M:List Bk} {c:Array Value} {t:TypeId} (F:Fr a N L) (H:Hp w0 w M) (hn:Nat.blt n N=true) (h:(execOp a.eval ⟨some n,op,ty,ps,af,none⟩).run P w=.ok (.value (.pointer (some ⟨w.heap.size,0,none⟩))) (w.alloc (.cells c t)))
  (k:∀ (b:Nat) (w':World) (a':Act),Kept No w w'→w.heap.size≤b→Hp w0 w' (⟨b,t,c⟩ :: M)→Fr a' N ((n,.pointer (some ⟨b,0,none⟩)) :: L)→wpList P ops Q rest a' w'):wpList P ops Q (⟨some n,op,ty,ps,af,none⟩ :: rest) a w :=
 j7 F hn h λa' F'=>k _ _ a' ((Kept.refl No w).alloc _) (Nat.le_refl _) (H.new t c) F'
theorem jf {M:List Bk} {f:Nat} {args:Array Value} (F:Fr a N L) (H:Hp w0 w M) (hn:Nat.blt n N=true) (h:(execOp a.eval ⟨some n,op,ty,ps,af,none⟩).run P w=.ok (.enter f args) w)
  (hc:Calls P f args w λe w'=>e=.returned v∧Kept No w w') (k:∀ (w':World) (a':Act),Kept No w w'→Hp w0 w' M→Fr a' N ((n,v) :: L)→wpList P ops Q rest a' w'):wpList P ops Q (⟨some n,op,ty,ps,af,none⟩ :: rest) a w:=by
 unfold wpList;rw[if_pos (j2u rfl)];left;unfold Oper.wp;rw[h];refine hc.mono ?_;rintro e w' ⟨rfl,hk⟩;exact k w' _ hk (H.kept hk) (F.put hn v)
theorem va {M:List Bk} {f:Nat} {args:Array Value} {R:Value→World→Prop} (F:Fr a N L) (H:Hp w0 w M) (hn:Nat.blt n N=true) (h:(execOp a.eval ⟨some n,op,ty,ps,af,none⟩).run P w=.ok (.enter f args) w)
  (hc:Calls P f args w λe w'=>∃ v,e=.returned v∧R v w'∧Kept No w w') (k:∀ (v:Value) (w':World) (a':Act),R v w'→Kept No w w'→Hp w0 w' M→Fr a' N ((n,v) :: L)→wpList P ops Q rest a' w'):wpList P ops Q (⟨some n,op,ty,ps,af,none⟩ :: rest) a w:=by
 unfold wpList;rw[if_pos (j2u rfl)];left;unfold Oper.wp;rw[h];refine hc.mono ?_;rintro e w' ⟨v,rfl,hR,hk⟩;exact k v w' _ hR hk (H.kept hk) (F.put hn v)
theorem qU {M:List Bk} {f:Nat} {args:Array Value} (F:Fr a N L) (H:Hp w0 w M) (hn:Nat.blt n N=true) (hw:Region.wanted ⟨some n,op,ty,ps,af,some gd⟩ (yielded ops a.tmps)=G) (h:G=true→(execOp a.eval ⟨some n,op,ty,ps,af,some gd⟩).run P w=.ok (.enter f args) w)
  (hc:G=true→Calls P f args w λe w'=>e=.returned v∧Kept No w w') (k:∀ (w':World) (a':Act),Kept No w w'→Hp w0 w' M→Fr a' N ((n,og G v) :: L)→wpList P ops Q rest a' w'):wpList P ops Q (⟨some n,op,ty,ps,af,some gd⟩ :: rest) a w:=by
 cases G with
 | true =>
  unfold wpList;rw[if_pos hw];left;unfold Oper.wp;rw[h rfl];refine (hc rfl).mono ?_;rintro e w' ⟨rfl,hk⟩;exact k w' _ hk (H.kept hk) (F.put hn v)
 | false =>
  unfold wpList;rw[if_neg (by rw[hw];simp)];exact k w _ (Kept.refl No w) H (F.put hn undef)
theorem j8s {S T:TypeId} {x:Operand} {K m b o i:Nat} {ty2:TypeId} {ps2:String} {af2:Array Edge} (F:Fr a N L) (hn:Nat.blt n N=true) (hm:Nat.blt m N=true) (hx:a.eval x=.pointer (some ⟨b,o,none⟩)) (hf:(Instr.fieldAt S (.pointer (some ⟨b,o,none⟩)) K).run P w=.ok (.pointer (some ⟨b,i,none⟩)) w)
  (hg:(isAgg T).run P w=.ok false w) (hc:w.cell? ⟨b,i,none⟩=some v) (k:∀ a':Act,Fr a' N ((m,v) :: (n,.pointer (some ⟨b,i,none⟩)) :: L)→wpList P ops Q rest a' w) :
  wpList P ops Q (⟨some n,.fieldAddr S x K,ty,ps,af,none⟩ :: ⟨some m,.load T (.tmp n),ty2,ps2,af2,none⟩ :: rest) a w :=
 j7 F hn (qx rfl hx hf) λa1 F1=>j7 F1 hm (jA rfl (F1.e (by simp[lk])) (jk hg hc)) k
theorem jI {ρ:Operand→Value} {o:Oper} {w:World} {c x:Operand} (ho:o.op=.pick c x (.const (.bool false))) (hc:ρ c=.bool X) (hx:X=true→ρ x=.bool Y) (hf:ρ (.const (.bool false))=.bool false):(execOp ρ o).run P w=.ok (.value (.bool (X&&Y))) w:=by
 cases X with
 | true=>simp[execOp,ho,hc,hx rfl,asBool]
 | false=>simp[execOp,ho,hc,asBool,hf]
theorem qL {ρ:Operand→Value} {o:Oper} {w:World} {c x:Operand} (ho:o.op=.pick c (.const (.bool true)) x) (hc:ρ c=.bool X) (hx:X=false→ρ x=.bool Y) (ht:ρ (.const (.bool true))=.bool true):(execOp ρ o).run P w=.ok (.value (.bool (X||Y))) w:=by
 cases X with
 | true=>simp[execOp,ho,hc,asBool,ht]
 | false=>simp[execOp,ho,hc,hx rfl,asBool]
theorem jJ8 {c:Operand} {x y:Code} (hc:a.eval c=.bool X) (ht:X=true→x.wp P Q a w) (hf:X=false→y.wp P Q a w):(Code.cond c x y).wp P Q a w:=wp_cond_split hc ht hf
theorem xf {α:Type} {c:Code} (I:α→Act→World→Prop) (m:α→Nat) (x0:α) (h0:I x0 a w) (round:∀ x a w,I x a w→∀ K:Act→World→Prop,(∀ y a' w',m y<m x→I y a' w'→K a' w')→c.wp P (Exit.then K Q) a w):(Code.loop c).wp P Q a w :=
 wp_loop_ghost (λk a w=>∃ x,m x=k∧I x a w) (m x0) ⟨x0,rfl,h0⟩ (by
  rintro k a w ⟨x,rfl,hI⟩;exact round x a w hI _ (λy a' w' hlt hy=>⟨m y,hlt,y,rfl,hy⟩))
variable {md:Region.Mode} {S:World→Prop} {fuel:Nat} {listed:Array Bool} {i:Nat}
theorem j5x (hi:(Region.noSelect ops&&(Region.free md ops listed i&&(Region.ready md ops listed).contains i))=true):Region.noSelect ops=true∧Region.free md ops listed i=true∧(Region.ready md ops listed).contains i=true:=by
 simpa [aE9] using hi
theorem jG (F:Fr a N L) (hn:Nat.blt n N=true) (hi:ops[i]?=some ⟨some n,op,ty,ps,af,none⟩) (hr:(Region.noSelect ops&&(Region.free md ops listed i&&(Region.ready md ops listed).contains i))=true)
  (hQ:∀ c a w,Q (.panic c) (a.put (some n) v) w→Q (.panic c) a w) (hS:S w) (h:∀ wz,S wz→(execOp a.eval ⟨some n,op,ty,ps,af,none⟩).run P wz=.ok (.value v) wz)
  (k:∀ a':Act,Fr a' N ((n,v) :: L)→wpAnyH P md ops Q S fuel (listed.setIfInBounds i true) a' w):wpAnyH P md ops Q S (fuel+1) listed a w:=by
 obtain ⟨h1,h2,h3⟩:=j5x hr;exact wpAnyH_take (v:=v) hi h1 h2 h3 hQ (Or.inl ⟨j2u rfl,h⟩) hS (k _ (F.put hn v))
theorem j2w (F:Fr a N L) (hn:Nat.blt n N=true) (hi:ops[i]?=some ⟨some n,op,ty,ps,af,some gd⟩) (hr:(Region.noSelect ops&&(Region.free md ops listed i&&(Region.ready md ops listed).contains i))=true)
  (hQ:∀ u c a w,Q (.panic c) (a.put (some n) u) w→Q (.panic c) a w) (hS:S w) (hw:Region.wanted ⟨some n,op,ty,ps,af,some gd⟩ (yielded ops a.tmps)=G) (h:G=true→∀ wz,S wz→(execOp a.eval ⟨some n,op,ty,ps,af,some gd⟩).run P wz=.ok (.value v) wz)
  (k:∀ a':Act,Fr a' N ((n,og G v) :: L)→wpAnyH P md ops Q S fuel (listed.setIfInBounds i true) a' w):wpAnyH P md ops Q S (fuel+1) listed a w:=by
 obtain ⟨h1,h2,h3⟩:=j5x hr;cases G with
 | true=>exact wpAnyH_take (v:=v) hi h1 h2 h3 (hQ v) (Or.inl ⟨hw,h rfl⟩) hS (k _ (F.put hn v))
 | false=>exact wpAnyH_take (v:=undef) hi h1 h2 h3 (hQ undef) (Or.inr ⟨hw,rfl⟩) hS (k _ (F.put hn undef))
theorem jE5 {f:Nat} {args:Array Value} (F:Fr a N L) (hn:Nat.blt n N=true) (hi:ops[i]?=some ⟨some n,op,ty,ps,af,none⟩) (hr:Region.ready md ops listed=[i])
  (h:(execOp a.eval ⟨some n,op,ty,ps,af,none⟩).run P w=.ok (.enter f args) w) (hc:Calls P f args w λe w'=>e=.returned v∧Kept No w w') (hS:∀ w',Kept No w w'→S w')
  (k:∀ (w':World) (a':Act),Kept No w w'→S w'→Fr a' N ((n,v) :: L)→wpAnyH P md ops Q S fuel (listed.setIfInBounds i true) a' w'):wpAnyH P md ops Q S (fuel+1) listed a w:=by
 refine j8r hi hr (j2u rfl) ?_;unfold Oper.wp;rw[h];refine hc.mono ?_;rintro e w' ⟨rfl,hk⟩;exact ⟨hS w' hk,k w' _ hk (hS w' hk) (F.put hn v)⟩
theorem j0n {f:Nat} {args:Array Value} (F:Fr a N L) (hn:Nat.blt n N=true) (hi:ops[i]?=some ⟨some n,op,ty,ps,af,some gd⟩) (hr:Region.ready md ops listed=[i])
  (hw:Region.wanted ⟨some n,op,ty,ps,af,some gd⟩ (yielded ops a.tmps)=G) (h:G=true→(execOp a.eval ⟨some n,op,ty,ps,af,some gd⟩).run P w=.ok (.enter f args) w) (hc:G=true→Calls P f args w λe w'=>e=.returned v∧Kept No w w') (hS:∀ w',Kept No w w'→S w')
  (k:∀ (w':World) (a':Act),Kept No w w'→S w'→Fr a' N ((n,og G v) :: L)→wpAnyH P md ops Q S fuel (listed.setIfInBounds i true) a' w'):wpAnyH P md ops Q S (fuel+1) listed a w:=by
 refine wpAnyH_all hr (by simp) λj hj=>?_
 obtain rfl:=List.mem_singleton.1 hj;unfold wpOp;simp only[hi];cases G with
 | true =>
  rw[if_pos hw];left;unfold Oper.wp;rw[h rfl];refine (hc rfl).mono ?_;rintro e w' ⟨rfl,hk⟩;exact ⟨hS w' hk,k w' _ hk (hS w' hk) (F.put hn v)⟩
 | false =>
  rw[if_neg (by rw[hw];simp)];exact ⟨hS w (Kept.refl No w),k w _ (Kept.refl No w) (hS w (Kept.refl No w)) (F.put hn undef)⟩
theorem jJ9 (F:Fr a N L) (hn:Nat.blt n N=true) (hi:ops[i]?=some ⟨some n,op,ty,ps,af,some gd⟩) (hr:(Region.noSelect ops&&(Region.free md ops listed i&&(Region.ready md ops listed).contains i))=true)
  (hQ:∀ c a w,Q (.panic c) (a.put (some n) v) w→Q (.panic c) a w) (hS:S w) (hw:Region.wanted ⟨some n,op,ty,ps,af,some gd⟩ (yielded ops a.tmps)=true) (h:∀ wz,S wz→(execOp a.eval ⟨some n,op,ty,ps,af,some gd⟩).run P wz=.ok (.value v) wz)
  (k:∀ a':Act,Fr a' N ((n,v) :: L)→wpAnyH P md ops Q S fuel (listed.setIfInBounds i true) a' w):wpAnyH P md ops Q S (fuel+1) listed a w:=by
 obtain ⟨h1,h2,h3⟩:=j5x hr;exact wpAnyH_take (v:=v) hi h1 h2 h3 hQ (Or.inl ⟨hw,h⟩) hS (k _ (F.put hn v))
theorem jBi {f:Nat} {args:Array Value} (F:Fr a N L) (hn:Nat.blt n N=true) (hi:ops[i]?=some ⟨some n,op,ty,ps,af,some gd⟩) (hr:Region.ready md ops listed=[i]) (hw:Region.wanted ⟨some n,op,ty,ps,af,some gd⟩ (yielded ops a.tmps)=true)
  (h:(execOp a.eval ⟨some n,op,ty,ps,af,some gd⟩).run P w=.ok (.enter f args) w) (hc:Calls P f args w λe w'=>e=.returned v∧Kept No w w') (hS:∀ w',Kept No w w'→S w')
  (k:∀ (w':World) (a':Act),Kept No w w'→S w'→Fr a' N ((n,v) :: L)→wpAnyH P md ops Q S fuel (listed.setIfInBounds i true) a' w'):wpAnyH P md ops Q S (fuel+1) listed a w:=by
 refine j8r hi hr hw ?_;unfold Oper.wp;rw[h];refine hc.mono ?_;rintro e w' ⟨rfl,hk⟩;exact ⟨hS w' hk,k w' _ hk (hS w' hk) (F.put hn v)⟩
theorem jE4 {f:Nat} {args:Array Value} {R:Value→World→Prop} (F:Fr a N L) (hn:Nat.blt n N=true) (hi:ops[i]?=some ⟨some n,op,ty,ps,af,some gd⟩) (hr:Region.ready md ops listed=[i]) (hw:Region.wanted ⟨some n,op,ty,ps,af,some gd⟩ (yielded ops a.tmps)=true)
  (h:(execOp a.eval ⟨some n,op,ty,ps,af,some gd⟩).run P w=.ok (.enter f args) w) (hc:Calls P f args w λe w'=>∃ v,e=.returned v∧R v w'∧Kept No w w') (hS:∀ w',Kept No w w'→S w')
  (k:∀ (v:Value) (w':World) (a':Act),R v w'→Kept No w w'→S w'→Fr a' N ((n,v) :: L)→wpAnyH P md ops Q S fuel (listed.setIfInBounds i true) a' w'):wpAnyH P md ops Q S (fuel+1) listed a w:=by
 refine j8r hi hr hw ?_;unfold Oper.wp;rw[h];refine hc.mono ?_;rintro e w' ⟨v,rfl,hR,hk⟩;exact ⟨hS w' hk,k v w' _ hR hk (hS w' hk) (F.put hn v)⟩
theorem jE3 {M:List Bk} {f:Nat} {args:Array Value} (F:Fr a N L) (H:Hp w0 w M) (hn:Nat.blt n N=true) (hw:Region.wanted ⟨some n,op,ty,ps,af,some gd⟩ (yielded ops a.tmps)=true) (h:(execOp a.eval ⟨some n,op,ty,ps,af,some gd⟩).run P w=.ok (.enter f args) w)
  (hc:Calls P f args w λe w'=>e=.returned v∧Kept No w w') (k:∀ (w':World) (a':Act),Kept No w w'→Hp w0 w' M→Fr a' N ((n,v) :: L)→wpList P ops Q rest a' w'):wpList P ops Q (⟨some n,op,ty,ps,af,some gd⟩ :: rest) a w:=by
 unfold wpList;rw[if_pos hw];left;unfold Oper.wp;rw[h];refine hc.mono ?_;rintro e w' ⟨rfl,hk⟩;exact k w' _ hk (H.kept hk) (F.put hn v)
end
set_option maxRecDepth 100000
theorem jCr:FN Tryz.prog 22:=jr Tryz.func22 (by kernel_rfl) rfl
theorem jNd:FN Tryz.prog 31:=jr Tryz.func31 (by kernel_rfl) rfl
theorem jNm:FN Tryz.prog 58:=jr Tryz.func58 (by kernel_rfl) rfl
theorem j1b:FN Tryz.prog 39:=jr Tryz.func39 (by kernel_rfl) rfl
theorem j5s:FN Tryz.prog 80:=jr Tryz.func80 (by kernel_rfl) rfl
theorem jKv:FN Tryz.prog 83:=jr Tryz.func83 (by kernel_rfl) rfl
theorem jNx:FN Tryz.prog 79:=jr Tryz.func79 (by kernel_rfl) rfl
theorem jNh:FN Tryz.prog 37:=jr Tryz.func37 (by kernel_rfl) rfl
theorem jNl:FN Tryz.prog 57:=jr Tryz.func57 (by kernel_rfl) rfl
theorem jNp:FN Tryz.prog 61:=jr Tryz.func61 (by kernel_rfl) rfl
theorem jKu:FN Tryz.prog 82:=jr Tryz.func82 (by kernel_rfl) rfl
theorem jKr:FN Tryz.prog 42:=jr Tryz.func42 (by kernel_rfl) rfl
theorem jNi:FN Tryz.prog 40:=jr Tryz.func40 (by kernel_rfl) rfl
theorem jLm:FN Tryz.prog 100:=jr Tryz.func100 (by kernel_rfl) rfl
theorem jNn:FN Tryz.prog 59:=jr Tryz.func59 (by kernel_rfl) rfl
theorem jNw:FN Tryz.prog 77:=jr Tryz.func77 (by kernel_rfl) rfl
theorem jNo:FN Tryz.prog 60:=jr Tryz.func60 (by kernel_rfl) rfl
theorem jNy:FN Tryz.prog 81:=jr Tryz.func81 (by kernel_rfl) rfl
theorem j2q:FN Tryz.prog 38:=jr Tryz.func38 (by kernel_rfl) rfl
theorem j7k:FN Tryz.prog 41:=jr Tryz.func41 (by kernel_rfl) rfl
theorem jO1:FN Tryz.prog 96:=jr Tryz.func96 (by kernel_rfl) rfl
theorem zx:FN Tryz.prog 24:=jr Tryz.func24 (by kernel_rfl) rfl
theorem jJ0:FN Tryz.prog 9:=jr Tryz.func9 (by kernel_rfl) rfl
theorem j3x:FN Tryz.prog 11:=jr Tryz.func11 (by kernel_rfl) rfl
theorem jCp:FN Tryz.prog 10:=jr Tryz.func10 (by kernel_rfl) rfl
theorem jCq:FN Tryz.prog 15:=jr Tryz.func15 (by kernel_rfl) rfl
theorem jKm:FN Tryz.prog 16:=jr Tryz.func16 (by kernel_rfl) rfl
theorem jKk:FN Tryz.prog 12:=jr Tryz.func12 (by kernel_rfl) rfl
theorem jKl:FN Tryz.prog 13:=jr Tryz.func13 (by kernel_rfl) rfl
theorem jN9:FN Tryz.prog 14:=jr Tryz.func14 (by kernel_rfl) rfl
theorem jKn:FN Tryz.prog 17:=jr Tryz.func17 (by kernel_rfl) rfl
theorem jNz:FN Tryz.prog 84:=jr Tryz.func84 (by kernel_rfl) rfl
theorem jKt:FN Tryz.prog 76:=jr Tryz.func76 (by kernel_rfl) rfl
theorem jKx:FN Tryz.prog 97:=jr Tryz.func97 (by kernel_rfl) rfl
theorem jKw:FN Tryz.prog 95:=jr Tryz.func95 (by kernel_rfl) rfl
theorem jO3:FN Tryz.prog 99:=jr Tryz.func99 (by kernel_rfl) rfl
theorem jO2:FN Tryz.prog 98:=jr Tryz.func98 (by kernel_rfl) rfl
theorem jLn:FN Tryz.prog 114:=jr Tryz.func114 (by kernel_rfl) rfl
def jP (p:Pk):Pk :=
 if p.kind=1 then {zk 1 with clean:=p.clean,keep:=p.keep,props:=p.props,client:=p.client,hasWill:=p.hasWill,hasUser:=p.hasUser,hasPass:=p.hasPass,willQoS:=if p.hasWill then p.willQoS else 0,willRetain:=if p.hasWill then p.willRetain else false,willProps:=if p.hasWill then p.willProps else [],willTopic:=if p.hasWill then p.willTopic else ⟨#[]⟩,willLoad:=if p.hasWill then p.willLoad else ⟨#[]⟩,user:=if p.hasUser then p.user else ⟨#[]⟩,pass:=if p.hasPass then p.pass else ⟨#[]⟩}
 else if p.kind=2 then {zk 2 with present:=p.present,code:=p.code,props:=p.props}
 else if p.kind=3 then {zk 3 with dup:=p.dup,qos:=p.qos,retain:=p.retain,topic:=p.topic,id:=p.id,props:=p.props,load:=p.load}
 else if p.kind=4∨p.kind=5∨p.kind=6∨p.kind=7 then {zk p.kind with id:=p.id,code:=p.code,props:=p.props}
 else if p.kind=8∨p.kind=10 then {zk p.kind with id:=p.id,props:=p.props,filters:=p.filters}
 else if p.kind=9∨p.kind=11 then {zk p.kind with id:=p.id,props:=p.props,codes:=p.codes}
 else if p.kind=14∨p.kind=15 then {zk p.kind with code:=p.code,props:=p.props}
 else zk p.kind
def zA (p:Pk):Bool:=decide (p.willQoS≤2)&&(xD p.willTopic&&decide (p.willLoad.size≤65535))
def qk (v:Int) (p:Pk):Bool :=
 jb p.client&&(jb p.user&&(decide (p.pass.size≤65535)&&((!p.hasWill||zA p)&&(decide (v=5)||((p.hasUser||!p.hasPass)&&(p.clean||decide (0<p.client.size)))))))
def j3m (v k:Int) (f:Fi):Bool :=
 if k=10 then decide (f.opt=0) else if 2<f.opt % 4 then false else if v=4 then decide (f.opt<4) else if f.opt / 16 % 4=3∨64≤f.opt then false else !qu f.text||decide (f.opt / 4 % 2=0)
def vr (v:Int) (p:Pk):Bool:=decide (1≤p.filters.length)&&(decide (p.filters.length≤1024)&&p.filters.all λf=>qE f.text&&j3m v p.kind f)
def zt (v:Int) (p:Pk):Bool :=
 if v=4∧p.kind=11 then decide (p.codes.length=0) else decide (1≤p.codes.length)&&(decide (p.codes.length≤1024)&&p.codes.all λc=>ke v p.kind c.toNat)
def q8 (v:Int) (p:Pk):Bool :=
 if p.kind=1 then qk v p
 else if p.kind=2 then ke v p.kind p.code&&(decide (p.code=0)||!p.present)
 else if p.kind=3 then j03 v p
 else if p.kind=4∨p.kind=5∨p.kind=6∨p.kind=7 then !decide (p.id=0)&&ke v p.kind p.code
 else if p.kind=8∨p.kind=10 then !decide (p.id=0)&&vr v p
 else if p.kind=9∨p.kind=11 then !decide (p.id=0)&&zt v p
 else if p.kind=14 then ke v p.kind p.code
 else if p.kind=15 then (qg p.props 21).isSome&&ke v p.kind p.code
 else true
def xm (v:Int) (p:Pk):Nat:=if v=4∨(p.code=0∧p.props.length=0) then 0 else if p.props.length=0 then 1 else 1+j14 v p.props
def qZ (k:Int):List Fi→Nat
 | []=>0
 | f :: l=>(2+f.text.size+if k=8 then 1 else 0)+qZ k l
def qo (v:Int) (p:Pk):Nat:=10+j14 v p.props+(2+p.client.size)+(if p.hasWill then j14 v p.willProps+(2+p.willTopic.size)+(2+p.willLoad.size) else 0)+(if p.hasUser then 2+p.user.size else 0)+(if p.hasPass then 2+p.pass.size else 0)
def qD (v:Int) (p:Pk):Nat :=
 if p.kind=1 then qo v p
 else if p.kind=2 then 2+j14 v p.props
 else if p.kind=3 then 2+p.topic.size+(if p.qos=0 then 0 else 2)+j14 v p.props+p.load.size
 else if p.kind=4∨p.kind=5∨p.kind=6∨p.kind=7 then 2+xm v p
 else if p.kind=8∨p.kind=10 then 2+j14 v p.props+qZ p.kind p.filters
 else if p.kind=9∨p.kind=11 then 2+j14 v p.props+p.codes.length
 else if p.kind=14∨p.kind=15 then xm v p
 else 0
def qj (v:Int) (p:Pk):Bool:=xN v p.kind&&(decide (p=jP p)&&(j1g v p&&(q8 v p&&decide (qD v p≤268435455))))
def j4f (v k:Int) (f:Fi):Bool :=
 !(!qE f.text||(decide (f.opt % 4=3)||((decide (k=10)&&!decide (f.opt=0))||((decide (v=4)&&decide (2<f.opt))||(decide (48≤f.opt)||(qu f.text&&decide (f.opt / 4 % 2=1)))))))
def j00 (v:Int) (p:Pk):Bool :=
 (if p.kind=8∨p.kind=10 then decide (1≤p.filters.length)&&(decide (p.filters.length≤1024)&&p.filters.all λf=>j4f v p.kind f) else true) &&
 ((if p.kind=9∨(p.kind=11∧v=5) then decide (1≤p.codes.length)&&(decide (p.codes.length≤1024)&&p.codes.all λc=>ke v p.kind c.toNat) else true) &&
  !(decide (p.kind=11)&&(decide (v=4)&&decide (0<p.codes.length))))
def j5e (v:Int) (p:Pk):Bool :=
 !((p.hasWill&&(decide (2<p.willQoS)||!xD p.willTopic))||(decide (v=4)&&((p.hasPass&&!p.hasUser)||(decide (p.client.size=0)&&!p.clean)))) &&
  (decide (p.pass.size≤65535)&&(decide (p.willLoad.size≤65535)&&(jb p.client&&jb p.user)))
def j6i (v:Int) (p:Pk):Bool :=
 if 2<p.qos∨(p.dup=true∧p.qos=0)∨decide (p.id=0)≠decide (p.qos=0) then false
 else xD p.topic||(decide (v=5)&&(decide (p.topic.size=0)&&(qg p.props 35).isSome))
def j1d (v:Int) (p:Pk):Bool :=
 if p.kind=1 then j5e v p
 else if p.kind=2 then ke v 2 p.code&&!(p.present&&!decide (p.code=0))
 else if p.kind=3 then j6i v p
 else if p.kind=4∨p.kind=5∨p.kind=6∨p.kind=7∨p.kind=14 then ke v p.kind p.code
 else if p.kind=15 then ke v 15 p.code&&(qg p.props 21).isSome
 else true
def j93 (v:Int) (p:Pk):Bool :=
 xN v p.kind&&(decide (p=jP p)&&((!(decide (v=4)&&(decide (0<p.props.length)||decide (0<p.willProps.length)))&&(ql p.kind p.props&&ql 16 p.willProps)) &&
  (!(decide (4≤p.kind)&&(decide (p.kind≤11)&&decide (p.id=0)))&&(j00 v p&&j1d v p))))
theorem j7a (k:Int):ql k []=true:=rfl
theorem j9x {v k:Int} (h:xN v k=true):(v=4∨v=5)∧1≤k∧k≤15:=by
 simp only[xN,oE9,aE9,dE9]at h;omega
theorem jM8 (v k:Int) (f:Fi) (hv:v=4∨v=5) (ho:f.opt<256) (hk:k=8∨k=10):(qE f.text&&j3m v k f)=j4f v k f:=by
 unfold j3m j4f;cases qE f.text with
 | false=>simp
 | true =>
  cases hs:qu f.text with
  | false =>
   rcases hk with rfl|rfl<;>rcases hv with rfl|rfl<;>simp<;>(rw[Bool.eq_iff_iff];simp;omega)
  | true =>
   rcases hk with rfl|rfl<;>rcases hv with rfl|rfl<;>simp<;>(rw[Bool.eq_iff_iff];simp;omega)
theorem jBo {s:ByteArray} (h:s.size=0):xD s=false:=by unfold xD;simp[h]
theorem jHa (v:Int) (p:Pk) (ho:∀ f∈p.filters,f.opt<256) (hr:qD v p≤268435455):qj v p=j93 v p:=by
  unfold qj j93;cases hE:xN v p.kind with
  | false=>rfl
  | true =>
    obtain ⟨hv,hk1,hk2⟩:=j9x hE
    by_cases hb:p=jP p
    case neg=>simp[hb]
    rw[decide_eq_true hb,decide_eq_true hr]
    have hP:j1g v p=(!(decide (v=4)&&(decide (0<p.props.length)||decide (0<p.willProps.length)))&&(ql p.kind p.props&&ql 16 p.willProps)):=by
      unfold j1g;rcases hv with rfl|rfl
      · rw[if_pos rfl]
        cases hp:p.props with
        | nil=>cases hw:p.willProps with
          | nil=>simp[j7a]
          | cons a l=>simp
        | cons a l=>simp
      · rw[if_neg (by omega)];simp
    rw[hP]
    have hF:q8 v p=(!(decide (4≤p.kind)&&(decide (p.kind≤11)&&decide (p.id=0)))&&(j00 v p&&j1d v p)):=by
      rcases (show p.kind=1∨p.kind=2∨p.kind=3∨p.kind=4∨p.kind=5∨p.kind=6∨p.kind=7∨p.kind=8∨p.kind=9∨p.kind=10∨p.kind=11∨p.kind=12∨p.kind=13∨p.kind=14∨p.kind=15 from by omega) with h|h|h|h|h|h|h|h|h|h|h|h|h|h|h
      · unfold q8 j00 j1d
        simp only[h];simp
        have hwl:p.hasWill=false→p.willLoad.size=0:=by
          intro hw
          have:p.willLoad=(jP p).willLoad:=congrArg Pk.willLoad hb
          rw[this];unfold jP;rw[if_pos h,hw];rfl
        unfold qk j5e zA
        have hc:decide (0<p.client.size) = !decide (p.client.size=0):=by
          generalize p.client.size=m;cases m<;>simp
        rw[hc];have hq:decide (2<p.willQoS) = !decide (p.willQoS≤2):=by rw[Bool.eq_iff_iff];simp
        rw[hq];cases hw:p.hasWill with
        | false =>
          have hl:decide (p.willLoad.size≤65535)=true:=by rw[hwl hw];rfl
          rw[hl];rcases hv with rfl|rfl
          · generalize jb p.client=a;generalize jb p.user=b;generalize decide (p.pass.size≤65535)=c;generalize decide (p.client.size=0)=d;cases p.hasUser<;>cases p.hasPass<;>cases p.clean<;>cases a<;>cases b<;>cases c<;>cases d<;>rfl
          · generalize jb p.client=a;generalize jb p.user=b;generalize decide (p.pass.size≤65535)=c;cases a<;>cases b<;>cases c<;>simp
        | true =>
          generalize decide (p.willLoad.size≤65535)=e;generalize decide (p.willQoS≤2)=f;generalize xD p.willTopic=g;rcases hv with rfl|rfl
          · generalize jb p.client=a;generalize jb p.user=b;generalize decide (p.pass.size≤65535)=c;generalize decide (p.client.size=0)=d;cases p.hasUser<;>cases p.hasPass<;>cases p.clean<;>cases e<;>cases f<;>cases g<;>cases a<;>cases b<;>cases c<;>cases d<;>rfl
          · generalize jb p.client=a;generalize jb p.user=b;generalize decide (p.pass.size≤65535)=c;cases e<;>cases f<;>cases g<;>cases a<;>cases b<;>cases c<;>simp
      · unfold q8 j00 j1d
        simp only[h];simp;generalize decide (p.code=0)=a;generalize ke v 2 p.code=b;cases a<;>cases b<;>cases p.present<;>rfl
      · unfold q8 j00 j1d
        simp only[h];simp;unfold j03 j6i
        by_cases h1:2<p.qos∨(p.dup=true∧p.qos=0)
        · have h1':2<p.qos∨(p.dup=true∧p.qos=0)∨decide (p.id=0)≠decide (p.qos=0):=by
            rcases h1 with h1|h1
            · exact .inl h1
            · exact .inr (.inl h1)
          rw[if_pos h1,if_pos h1']
        · rw[if_neg h1]
          by_cases h2:decide (p.id=0)≠decide (p.qos=0)
          · have h2':2<p.qos∨(p.dup=true∧p.qos=0)∨decide (p.id=0)≠decide (p.qos=0):=.inr (.inr h2)
            rw[if_pos h2,if_pos h2']
          · have h3':¬ (2<p.qos∨(p.dup=true∧p.qos=0)∨decide (p.id=0)≠decide (p.qos=0)):=by
              intro h3;rcases h3 with h3|h3|h3
              · exact h1 (.inl h3)
              · exact h1 (.inr h3)
              · exact h2 h3
            rw[if_neg h2,if_neg h3']
            by_cases h3:v=5∧p.topic.size=0
            · rw[if_pos h3,jBo h3.2]
              obtain ⟨h4,h5⟩:=h3;rw[decide_eq_true h4,decide_eq_true h5];simp
            · rw[if_neg h3]
              by_cases h4:v=5
              · have h5:p.topic.size≠0:=λh5=>h3 ⟨h4,h5⟩
                rw[decide_eq_false h5];simp
              · rw[decide_eq_false h4]
                simp
      all_goals first
        | (unfold q8 j00 j1d;simp only[h];simp;done)
        | (unfold q8 j00 j1d;simp only[h];simp;generalize decide (p.id=0)=a;generalize ke v _ p.code=b;cases a<;>cases b<;>rfl)
        | (unfold q8 j00 j1d vr;simp only[h]
           have hall:(p.filters.all λf=>qE f.text&&j3m v p.kind f)=(p.filters.all λf=>j4f v p.kind f):=by
             have hgo:∀ l:List Fi,(∀ f∈l,f.opt<256)→(l.all λf=>qE f.text&&j3m v p.kind f)=(l.all λf=>j4f v p.kind f):=by
               intro l
               induction l with
               | nil=>intro _;rfl
               | cons f l ih=>intro hl;rw[List.all_cons,List.all_cons,ih (λg hg=>hl g (List.mem_cons_of_mem _ hg)),jM8 v p.kind f hv (hl f (List.mem_cons_self ..)) (by omega)]
             exact hgo _ ho
           rw[h]at hall;rw[hall];simp)
        | (unfold q8 j00 j1d zt;simp only[h];rcases hv with rfl|rfl<;>simp<;>(generalize decide (p.id=0)=a;cases a<;>simp)<;>(cases p.codes<;>simp))
        | (unfold q8 j00 j1d;simp only[h];simp;generalize ke v 15 p.code=b;generalize (qg p.props 21).isSome=c;cases b<;>cases c<;>rfl)
    rw[hF];simp
structure Fit (p:Pk):Prop where
 few:p.few
 wf:Wf p
 r:Reach p
 qos:p.qos<256
 id:p.id<65536
 keep:p.keep<65536
 wq:p.willQoS<256
 code:p.code<256
 opt:∀ f∈p.filters,f.opt<256
theorem j9n {α:Type} {L:List α} {P:α→Bool} {j:Nat} (hj:j<L.length) (h:P L[j]=false):L.all P=false:=by
 rw[List.all_eq_false];exact ⟨L[j],List.getElem_mem hj,by simp[h]⟩
theorem j9o {α:Type} {L:List α} {P:α→Bool} {j:Nat} (hj:j<L.length) (h0:(L.take j).all P=true) (h:P L[j]=true):(L.take (j+1)).all P=true:=by
 rw[List.take_succ_eq_append_getElem hj,List.all_append,h0];simp[h]
theorem jCh {α:Type} {L:List α} {P:α→Bool} {j:Nat} (hj:¬ j<L.length) (h0:(L.take j).all P=true):L.all P=true:=by
 rwa [List.take_of_length_le (by omega)]at h0
theorem Row.byte {w:World} {a:Option Addr} {l:List UInt8} (h:Row w a (B8 l)) {k:Nat} (hk:k<l.length):∃ b off,a=some ⟨b,off,none⟩∧b<w.heap.size∧w.cell? ⟨b,off+k*1,none⟩=some (.int .u8 (l[k].toNat:Int)):=by
 obtain ⟨b,off,ha,hb,hc⟩:=h.at_ (k:=k) (by simpa using hk);refine ⟨b,off,ha,hb,?_⟩;rw[Nat.mul_one,hc];simp[B8]
def j13 (v k:Int) (f:Fi):Bool :=
 match decide (k=10) with
 | true=>decide (f.opt=0)
 | false=>match decide (2<(f.opt &&& 3)) with
  | true=>false
  | false=>match decide (v=4) with
   | true=>decide ((f.opt &&& 252)=0)
   | false=>match decide ((f.opt &&& 48)=48) with
    | true=>false
    | false=>match !decide ((f.opt &&& 192)=0) with
     | true=>false
     | false=>match !qu f.text with
      | true=>true
      | false=>decide ((f.opt &&& 4)=0)
theorem jFc:∀ n:Fin 256,(n.val &&& 3)=n.val % 4∧((n.val &&& 252)=0↔n.val<4)∧((n.val &&& 48)=48↔n.val / 16 % 4=3)∧((n.val &&& 192)=0↔n.val<64)∧((n.val &&& 4)=0↔n.val / 4 % 2=0):=by decide +kernel
theorem jJi (v k:Int) (f:Fi) (h:f.opt<256):j13 v k f=j3m v k f:=by
 obtain ⟨h1,h2,h3,h4,h5⟩:=jFc ⟨f.opt,h⟩;simp only at h1 h2 h3 h4 h5;unfold j13 j3m
 by_cases hk:k=10
 ·simp[hk]
 rw[if_neg hk,decide_eq_false hk]
 by_cases ha:2<f.opt % 4
 ·rw[if_pos ha,decide_eq_true (by omega:2<(f.opt &&& 3))]
 rw[if_neg ha,decide_eq_false (by omega:¬ 2<(f.opt &&& 3))]
 by_cases hv:v=4
 ·rw[if_pos hv,decide_eq_true hv]
  simp only[h2]
 rw[if_neg hv,decide_eq_false hv]
 by_cases hb:f.opt / 16 % 4=3
 ·rw[if_pos (.inl hb),decide_eq_true (h3.2 hb)]
 rw[decide_eq_false (λh=>hb (h3.1 h):¬ (f.opt &&& 48)=48)]
 by_cases hc:64≤f.opt
 ·rw[if_pos (.inr hc),decide_eq_false (λh=>by have:=h4.1 h;omega:¬ (f.opt &&& 192)=0)]
  rfl
 ·rw[if_neg (by omega),decide_eq_true (h4.2 (by omega))]
  cases qu f.text<;>simp[h5]
theorem jJe (m:Nat):decide (1≤m) = !decide (m=0):=by cases m<;>simp
theorem jM5 (m k:Nat):decide (m≤k) = !decide (k<m):=by rw[Bool.eq_iff_iff];simp
theorem j19 (k:Int):∀ (L:List Fi),(∀ f∈L,f.text.size≤65535)→qZ k L≤L.length*65538
 | [],_=>by simp[qZ]
 | f :: L,h=>by
  have h1:=j19 k L (λg hg=>h g (List.mem_cons_of_mem _ hg));have h2:=h f (List.mem_cons_self ..);simp only[qZ,List.length_cons]
  split<;>omega
theorem j2n (k:Int) (f:Fi):∀ (L:List Fi),qZ k (L++[f])=qZ k L+(2+f.text.size+if k=8 then 1 else 0)
 | []=>by simp[qZ]
 | g :: L=>by simp only[List.cons_append,qZ,j2n k f L];omega
theorem j70 (k:Int) {L:List Fi} {j:Nat} (hj:j<L.length):qZ k (L.take (j+1))=qZ k (L.take j)+(2+L[j].text.size+if k=8 then 1 else 0):=by
 rw[List.take_succ_eq_append_getElem hj,j2n]
end Go.Proofs.YtkochkhfbhjicaaGreatDoor
