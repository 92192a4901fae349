import Derived.Test.YtdeecgmihfakgaaGreatDoorYFE
import Derived.Deep.LoopGhost
import Derived.Test.YtdeecgmihfakgaaGreatDoorYFD
import Derived.Test.YtdeecgmihfakgaaGreatDoorYFC
import Derived.Test.YtdeecgmihfakgaaGreatDoorYFF
namespace Go.Proofs.YtdeecgmihfakgaaGreatDoor
open Go.RowKit
set_option linter.unusedVariables false
set_option linter.unusedSimpArgs false
theorem rn_remN {P:Program} {w:World} {t:TypeId} {k:IntKind} {i j:Nat} {x y:Operand} (hj:j≠0):(do eqGuard .rem t x y (.int k i) (.int k j);binOp .rem t (.int k i) (.int k j):Sem Value).run P w=.ok (.int k ((i % j:Nat):Int)) w :=
 rn_rem (by omega) rfl
theorem rn_quoN {P:Program} {w:World} {t:TypeId} {k:IntKind} {i j:Nat} {x y:Operand} (hj:j≠0) (h:k.wrap ((i / j:Nat):Int)=((i / j:Nat):Int)):(do eqGuard .quo t x y (.int k i) (.int k j);binOp .quo t (.int k i) (.int k j):Sem Value).run P w=.ok (.int k ((i / j:Nat):Int)) w :=
 rn_quo (by omega) (by rw[Int.tdiv_eq_ediv_of_nonneg (by omega),← Int.natCast_ediv];exact h)
def lk:List (Nat × Value)→Nat→Option Value
 | [],_=>none
 | (j,v) :: l,i=>match Nat.beq i j with
  | true=>some v
  | false=>lk l i
structure Fr (a:Act) (N:Nat) (L:List (Nat × Value)):Prop where
 z:a.tmps.size=N
 d:a.defers=[]
 g:∀ i v,lk L i=some v→a.tmps[i]?=some v
def og (b:Bool) (v:Value):Value:=match b with
 | true=>v
 | false=>undef
section
variable {P:Program} {ops:Array Oper} {Q:Exit→Act→World→Prop} {a:Act} {w w0:World} {rest:List Oper} {N n:Nat} {L:List (Nat × Value)} {v:Value} {ty:TypeId} {ps:String} {af:Array Edge} {op:Op} {gd:Nat × Bool} {G X Y:Bool}
theorem Fr.nil0 (z:a.tmps.size=N) (d:a.defers=[]):Fr a N []:=⟨z,d,fun i v h=>by simp[lk]at h⟩
theorem Fr.nil (F:Fr a N L):Fr a N []:=Fr.nil0 F.z F.d
theorem Fr.cons {i:Nat} (F:Fr a N L) (h:a.tmps[i]?=some v):Fr a N ((i,v) :: L):=by
 refine ⟨F.z,F.d,fun j u hu=>?_⟩;simp only[lk]at hu;cases hb:Nat.beq j i with
 | true =>
  rw[hb]at hu
  have:=Nat.eq_of_beq_eq_true hb
  subst this;injection hu with hu;rw[← hu];exact h
 | false=>rw[hb]at hu;exact F.g j u hu
theorem Fr.put (F:Fr a N L) (hn:Nat.blt n N=true) (v:Value):Fr (a.put (some n) v) N ((n,v) :: L):=by
 have hn':n < N:=by simpa [Nat.blt_eq] using hn
 obtain ⟨h1,h2,h3,h4⟩:=gx_put (v:=v) F.z hn';refine ⟨h1,h4.trans F.d,fun i u hu=>?_⟩;simp only[lk]at hu;cases hb:Nat.beq i n with
 | true =>
  rw[hb]at hu
  have:=Nat.eq_of_beq_eq_true hb
  subst this;injection hu with hu;rw[h2,hu]
 | false =>
  rw[hb]at hu;rw[h3 i (fun e=>by subst e;simp at hb)];exact F.g i u hu
theorem Fr.e {i:Nat} (F:Fr a N L) (h:lk L i=some v):a.eval (.tmp i)=v:=gx_ev (F.g i v h)
theorem Fr.o {i:Nat} (F:Fr a N L) (h:lk L i=some (og G v)) (hG:G=true):a.eval (.tmp i)=v:=by subst hG;exact F.e h
theorem Fr.hd {i:Nat} {u:Value} (F:Fr a N ((i,u) :: L)) (e:u=v):Fr a N ((i,v) :: L):=e▸F
theorem ga1 (h:(X&&Y)=true):X=true:=by cases X<;>simp_all
theorem ga2 (h:(X&&Y)=true):Y=true:=by cases Y<;>simp_all
theorem gai (h:X=true) (k:Y=true):(X&&Y)=true:=by rw[h,k];rfl
theorem gnf (h:(!X)=true):X=false:=by cases X<;>simp_all
theorem gnz (h:(!X)=false):X=true:=by cases X<;>simp_all
theorem gnt (h:X=false):(!X)=true:=by rw[h];rfl
theorem hw_t {o:Oper} {j t:Nat} (F:Fr a N L) (hg:o.guard=some (j,true)) (hj:(ops[j]?).bind (·.dst)=some t) (h:lk L t=some (.bool X)):Region.wanted o (yielded ops a.tmps)=X:=by
 rw[gx_wg hg hj (F.g t _ h)];cases X<;>rfl
theorem hw_f {o:Oper} {j t:Nat} (F:Fr a N L) (hg:o.guard=some (j,false)) (hj:(ops[j]?).bind (·.dst)=some t) (h:lk L t=some (.bool X)):Region.wanted o (yielded ops a.tmps) = !X:=by
 rw[gx_wg hg hj (F.g t _ h)];cases X<;>rfl
theorem hw_u {o:Oper} {j t:Nat} {want:Bool} (F:Fr a N L) (hg:o.guard=some (j,want)) (hj:(ops[j]?).bind (·.dst)=some t) (h:lk L t=some undef):Region.wanted o (yielded ops a.tmps)=false:=gx_wu hg hj (F.g t _ h)
theorem hw_ot {o:Oper} {j t:Nat} (F:Fr a N L) (hg:o.guard=some (j,true)) (hj:(ops[j]?).bind (·.dst)=some t) (h:lk L t=some (og G (.bool X))):Region.wanted o (yielded ops a.tmps)=(G&&X):=by
 cases G with
 | true=>rw[Bool.true_and];exact hw_t F hg hj h
 | false=>exact hw_u F hg hj h
theorem hw_of {o:Oper} {j t:Nat} (F:Fr a N L) (hg:o.guard=some (j,false)) (hj:(ops[j]?).bind (·.dst)=some t) (h:lk L t=some (og G (.bool X))):Region.wanted o (yielded ops a.tmps)=(G&&!X):=by
 cases G with
 | true=>rw[Bool.true_and];exact hw_f F hg hj h
 | false=>exact hw_u F hg hj h
theorem hz_do {w':World} (F:Fr a N L) (hn:Nat.blt n N=true) (h:(execOp a.eval ⟨some n,op,ty,ps,af,none⟩).run P w=.ok (.value v) w') (k:∀ a':Act,Fr a' N ((n,v) :: L)→wpList P ops Q rest a' w'):wpList P ops Q (⟨some n,op,ty,ps,af,none⟩ :: rest) a w:=by
 unfold wpList;rw[if_pos (gx_w rfl)];left;unfold Oper.wp;rw[h];exact k _ (F.put hn v)
theorem hz_do1 {w':World} (F:Fr a N L) (hn:Nat.blt n N=true) (hw:Region.wanted ⟨some n,op,ty,ps,af,some gd⟩ (yielded ops a.tmps)=true) (h:(execOp a.eval ⟨some n,op,ty,ps,af,some gd⟩).run P w=.ok (.value v) w') (k:∀ a':Act,Fr a' N ((n,v) :: L)→wpList P ops Q rest a' w'):wpList P ops Q (⟨some n,op,ty,ps,af,some gd⟩ :: rest) a w:=by
 unfold wpList;rw[if_pos hw];left;unfold Oper.wp;rw[h];exact k _ (F.put hn v)
theorem hz_no (F:Fr a N L) (hn:Nat.blt n N=true) (hw:Region.wanted ⟨some n,op,ty,ps,af,some gd⟩ (yielded ops a.tmps)=false) (k:∀ a':Act,Fr a' N ((n,undef) :: L)→wpList P ops Q rest a' w):wpList P ops Q (⟨some n,op,ty,ps,af,some gd⟩ :: rest) a w:=by
 unfold wpList;rw[if_neg (by rw[hw];simp)];exact k _ (F.put hn undef)
theorem hz_g (F:Fr a N L) (hn:Nat.blt n N=true) (hw:Region.wanted ⟨some n,op,ty,ps,af,some gd⟩ (yielded ops a.tmps)=G) (h:G=true→(execOp a.eval ⟨some n,op,ty,ps,af,some gd⟩).run P w=.ok (.value v) w) (k:∀ a':Act,Fr a' N ((n,og G v) :: L)→wpList P ops Q rest a' w):wpList P ops Q (⟨some n,op,ty,ps,af,some gd⟩ :: rest) a w:=by
 cases G with
 | true=>exact hz_do1 F hn hw (h rfl) k
 | false=>exact hz_no F hn hw k
theorem hz_st {w':World} (h:(execOp a.eval ⟨none,op,ty,ps,af,none⟩).run P w=.ok .skip w') (k:wpList P ops Q rest a w'):wpList P ops Q (⟨none,op,ty,ps,af,none⟩ :: rest) a w:=gx_st (gx_w rfl) rfl h k
structure Bk where
 b:Nat
 t:TypeId
 c:Array Value
def Hps (w0 w:World):List Bk→Prop
 | []=>True
 | x :: l=>Blk w x.b x.t x.c∧w0.heap.size≤x.b∧(∀ y∈l,y.b < x.b)∧Hps w0 w l
structure Hp (w0 w:World) (L:List Bk):Prop where
 k:Kept No w0 w
 b:Hps w0 w L
theorem Hp.start (w:World):Hp w w []:=⟨Kept.refl No w,trivial⟩
theorem Hps.kept {S:Nat→Prop} {w':World}:∀ {M:List Bk},Hps w0 w M→Kept S w w'→(∀ y∈M,¬ S y.b)→Hps w0 w' M
 | [],_,_,_=>trivial
 | x :: l,h,hk,hS=>⟨h.1.kept hk (hS x (List.mem_cons_self ..)),h.2.1,h.2.2.1,Hps.kept h.2.2.2 hk (fun y hy=>hS y (List.mem_cons_of_mem _ hy))⟩
theorem Hp.kept {w':World} {M:List Bk} (H:Hp w0 w M) (hk:Kept No w w'):Hp w0 w' M:=⟨H.k.trans hk,H.b.kept hk (fun _ _ f=>f)⟩
theorem Hp.tl {M:List Bk} {x:Bk} (H:Hp w0 w (x :: M)):Hp w0 w M:=⟨H.k,H.b.2.2.2⟩
theorem Hp.drew {M:List Bk} (H:Hp w0 w M):Hp w0 w.drew M:=H.kept (Kept.refl No w).drew
theorem Hps.lt {M:List Bk} (H:Hps w0 w M):∀ y∈M,y.b < w.heap.size:=by
 induction M with
 | nil=>intro y hy;cases hy
 | cons x l ih =>
  intro y hy;rcases List.mem_cons.1 hy with rfl|hy
  ·exact H.1.lt
  ·exact ih H.2.2.2 y hy
theorem Hp.new {M:List Bk} (H:Hp w0 w M) (t:TypeId) (c:Array Value):Hp w0 (w.alloc (.cells c t)) (⟨w.heap.size,t,c⟩ :: M) :=
 ⟨H.k.alloc _,Blk.new w t c,H.k.size,fun y hy=>H.b.lt y hy,H.b.kept ((Kept.refl No w).alloc _) (fun _ _ f=>f)⟩
theorem Hps.at_ {M:List Bk}:∀ {j:Nat} {x:Bk},Hps w0 w M→M[j]?=some x→Blk w x.b x.t x.c∧w0.heap.size≤x.b:=by
 induction M with
 | nil=>intro j x h e;simp at e
 | cons y l ih =>
  intro j x h e;cases j with
  | zero=>simp at e;subst e;exact ⟨h.1,h.2.1⟩
  | succ j=>exact ih h.2.2.2 (by simpa using e)
theorem Hp.c {M:List Bk} {b i:Nat} {t:TypeId} {c:Array Value} (j:Nat) (H:Hp w0 w M) (hj:M[j]?=some ⟨b,t,c⟩) (hi:c[i]?=some v):w.cell? ⟨b,i,none⟩=some v:=((H.b.at_ hj).1.cell i).trans hi
theorem Hp.cs {M:List Bk} {b:Nat} {t:TypeId} {c:Array Value} (j:Nat) (H:Hp w0 w M) (hj:M[j]?=some ⟨b,t,c⟩) (i:Nat):w.cell? ⟨b,i,none⟩=c[i]?:=(H.b.at_ hj).1.cell i
theorem Hps.turn {w':World} {b:Nat} {t:TypeId} {c c':Array Value}:∀ {M1 M2:List Bk},Hps w0 w (M1++⟨b,t,c⟩ :: M2)→Kept (One b) w w'→Blk w' b t c'→Hps w0 w' (M1++⟨b,t,c'⟩ :: M2)
 | [],M2,h,hk,hB=>⟨hB,h.2.1,h.2.2.1,h.2.2.2.kept hk (fun y hy e=>by have e:y.b=b:=e;have:=h.2.2.1 y hy;simp only at this;omega)⟩
 | x :: M1,M2,h,hk,hB=>by
  have hx:b < x.b:=h.2.2.1 ⟨b,t,c⟩ (by simp);refine ⟨h.1.kept hk (fun e=>by have e:x.b=b:=e;omega),h.2.1,?_,Hps.turn h.2.2.2 hk hB⟩;intro y hy;rcases List.mem_append.1 hy with hy|hy
  ·exact h.2.2.1 y (List.mem_append.2 (.inl hy))
  ·rcases List.mem_cons.1 hy with rfl|hy
   ·exact hx
   ·exact h.2.2.1 y (List.mem_append.2 (.inr (List.mem_cons_of_mem _ hy)))
theorem Hps.ge {M:List Bk} (H:Hps w0 w M):∀ y∈M,w0.heap.size≤y.b:=by
 induction M with
 | nil=>intro y hy;cases hy
 | cons x l ih =>
  intro y hy;rcases List.mem_cons.1 hy with rfl|hy
  ·exact H.2.1
  ·exact ih H.2.2.2 y hy
theorem Hp.turn {w':World} {b:Nat} {t:TypeId} {c c':Array Value} (M1:List Bk) {M2:List Bk} (H:Hp w0 w (M1++⟨b,t,c⟩ :: M2)) (hk:Kept (One b) w w') (hB:Blk w' b t c'):Hp w0 w' (M1++⟨b,t,c'⟩ :: M2) :=
 ⟨H.k.then hk (fun i hi e=>by have e:i=b:=e;have:=H.b.ge ⟨b,t,c⟩ (by simp);simp only at this;omega),H.b.turn hk hB⟩
theorem Hp.blk {M1 M2:List Bk} {b:Nat} {t:TypeId} {c:Array Value} (H:Hp w0 w (M1++⟨b,t,c⟩ :: M2)):Blk w b t c:=(H.b.at_ (j:=M1.length) (x:=⟨b,t,c⟩) (by simp)).1
theorem hz_new {M:List Bk} {c:Array Value} {t:TypeId} (F:Fr a N L) (H:Hp w0 w M) (hn:Nat.blt n N=true) (h:(execOp a.eval ⟨some n,op,ty,ps,af,none⟩).run P w=.ok (.value (.pointer (some ⟨w.heap.size,0,none⟩))) (w.alloc (.cells c t)))
  (k:∀ (b:Nat) (w':World) (a':Act),Kept No w w'→w.heap.size≤b→Hp w0 w' (⟨b,t,c⟩ :: M)→Fr a' N ((n,.pointer (some ⟨b,0,none⟩)) :: L)→wpList P ops Q rest a' w'):wpList P ops Q (⟨some n,op,ty,ps,af,none⟩ :: rest) a w :=
 hz_do F hn h fun a' F'=>k _ _ a' ((Kept.refl No w).alloc _) (Nat.le_refl _) (H.new t c) F'
theorem hz_callk {M:List Bk} {f:Nat} {args:Array Value} (F:Fr a N L) (H:Hp w0 w M) (hn:Nat.blt n N=true) (h:(execOp a.eval ⟨some n,op,ty,ps,af,none⟩).run P w=.ok (.enter f args) w)
  (hc:Calls P f args w fun e w'=>e=.returned v∧Kept No w w') (k:∀ (w':World) (a':Act),Kept No w w'→Hp w0 w' M→Fr a' N ((n,v) :: L)→wpList P ops Q rest a' w'):wpList P ops Q (⟨some n,op,ty,ps,af,none⟩ :: rest) a w:=by
 unfold wpList;rw[if_pos (gx_w rfl)];left;unfold Oper.wp;rw[h];refine hc.mono ?_;rintro e w' ⟨rfl,hk⟩;exact k w' _ hk (H.kept hk) (F.put hn v)
theorem hz_call {M:List Bk} {f:Nat} {args:Array Value} {R:Value→World→Prop} (F:Fr a N L) (H:Hp w0 w M) (hn:Nat.blt n N=true) (h:(execOp a.eval ⟨some n,op,ty,ps,af,none⟩).run P w=.ok (.enter f args) w)
  (hc:Calls P f args w fun e w'=>∃ v,e=.returned v∧R v w'∧Kept No w w') (k:∀ (v:Value) (w':World) (a':Act),R v w'→Kept No w w'→Hp w0 w' M→Fr a' N ((n,v) :: L)→wpList P ops Q rest a' w'):wpList P ops Q (⟨some n,op,ty,ps,af,none⟩ :: rest) a w:=by
 unfold wpList;rw[if_pos (gx_w rfl)];left;unfold Oper.wp;rw[h];refine hc.mono ?_;rintro e w' ⟨v,rfl,hR,hk⟩;exact k v w' _ hR hk (H.kept hk) (F.put hn v)
theorem hz_callg {M:List Bk} {f:Nat} {args:Array Value} (F:Fr a N L) (H:Hp w0 w M) (hn:Nat.blt n N=true) (hw:Region.wanted ⟨some n,op,ty,ps,af,some gd⟩ (yielded ops a.tmps)=G) (h:G=true→(execOp a.eval ⟨some n,op,ty,ps,af,some gd⟩).run P w=.ok (.enter f args) w)
  (hc:G=true→Calls P f args w fun e w'=>e=.returned v∧Kept No w w') (k:∀ (w':World) (a':Act),Kept No w w'→Hp w0 w' M→Fr a' N ((n,og G v) :: L)→wpList P ops Q rest a' w'):wpList P ops Q (⟨some n,op,ty,ps,af,some gd⟩ :: rest) a w:=by
 cases G with
 | true =>
  unfold wpList;rw[if_pos hw];left;unfold Oper.wp;rw[h rfl];refine (hc rfl).mono ?_;rintro e w' ⟨rfl,hk⟩;exact k w' _ hk (H.kept hk) (F.put hn v)
 | false =>
  unfold wpList;rw[if_neg (by rw[hw];simp)];exact k w _ (Kept.refl No w) H (F.put hn undef)
theorem hz_fld {S T:TypeId} {x:Operand} {K m b o i:Nat} {ty2:TypeId} {ps2:String} {af2:Array Edge} (F:Fr a N L) (hn:Nat.blt n N=true) (hm:Nat.blt m N=true) (hx:a.eval x=.pointer (some ⟨b,o,none⟩)) (hf:(Instr.fieldAt S (.pointer (some ⟨b,o,none⟩)) K).run P w=.ok (.pointer (some ⟨b,i,none⟩)) w)
  (hg:(isAgg T).run P w=.ok false w) (hc:w.cell? ⟨b,i,none⟩=some v) (k:∀ a':Act,Fr a' N ((m,v) :: (n,.pointer (some ⟨b,i,none⟩)) :: L)→wpList P ops Q rest a' w) :
  wpList P ops Q (⟨some n,.fieldAddr S x K,ty,ps,af,none⟩ :: ⟨some m,.load T (.tmp n),ty2,ps2,af2,none⟩ :: rest) a w :=
 hz_do F hn (ex_faddr rfl hx hf) fun a1 F1=>hz_do F1 hm (ex_load rfl (F1.e (by simp[lk])) (gl_one hg hc)) k
theorem hz_fldg {S T:TypeId} {x:Operand} {K m b o i:Nat} {ty2:TypeId} {ps2:String} {af2:Array Edge} {gt:Nat} {want:Bool} {j:Nat} (F:Fr a N L) (hn:Nat.blt n N=true) (hm:Nat.blt m N=true)
  (hw:Region.wanted ⟨some n,.fieldAddr S x K,ty,ps,af,some (j,want)⟩ (yielded ops a.tmps)=G) (hj:(ops[j]?).bind (·.dst)=some gt) (hne:Nat.beq gt n=false) (hx:G=true→a.eval x=.pointer (some ⟨b,o,none⟩)) (hf:(Instr.fieldAt S (.pointer (some ⟨b,o,none⟩)) K).run P w=.ok (.pointer (some ⟨b,i,none⟩)) w)
  (hg:(isAgg T).run P w=.ok false w) (hc:w.cell? ⟨b,i,none⟩=some v) (k:∀ a':Act,Fr a' N ((m,og G v) :: (n,og G (.pointer (some ⟨b,i,none⟩))) :: L)→wpList P ops Q rest a' w) :
  wpList P ops Q (⟨some n,.fieldAddr S x K,ty,ps,af,some (j,want)⟩ :: ⟨some m,.load T (.tmp n),ty2,ps2,af2,some (j,want)⟩ :: rest) a w:=by
 have hwt:∀ u,Region.wanted (⟨some m,.load T (.tmp n),ty2,ps2,af2,some (j,want)⟩:Oper) (yielded ops (a.put (some n) u).tmps)=G:=by
  intro u;rw[← hw];have hne':n≠gt:=fun e=>by subst e;simp at hne
  simp[Region.wanted,yielded,hj,Act.put,Array.getElem?_setIfInBounds,hne']
 have h2:=F.put hn (og G (.pointer (some ⟨b,i,none⟩)));unfold wpList;cases G with
 | true =>
  rw[if_pos hw];left;unfold Oper.wp;rw[ex_faddr rfl (hx rfl) hf];exact hz_do1 h2 hm (hwt _) (ex_load rfl (h2.e (by simp[lk,og])) (gl_one hg hc)) k
 | false =>
  rw[if_neg (by rw[hw];simp)];exact hz_no h2 hm (hwt _) k
theorem ex_pickA {ρ:Operand→Value} {o:Oper} {w:World} {c x:Operand} (ho:o.op=.pick c x (.const (.bool false))) (hc:ρ c=.bool X) (hx:X=true→ρ x=.bool Y) (hf:ρ (.const (.bool false))=.bool false):(execOp ρ o).run P w=.ok (.value (.bool (X&&Y))) w:=by
 cases X with
 | true=>simp[execOp,ho,hc,hx rfl,asBool]
 | false=>simp[execOp,ho,hc,asBool,hf]
theorem ex_pickO {ρ:Operand→Value} {o:Oper} {w:World} {c x:Operand} (ho:o.op=.pick c (.const (.bool true)) x) (hc:ρ c=.bool X) (hx:X=false→ρ x=.bool Y) (ht:ρ (.const (.bool true))=.bool true):(execOp ρ o).run P w=.ok (.value (.bool (X||Y))) w:=by
 cases X with
 | true=>simp[execOp,ho,hc,asBool,ht]
 | false=>simp[execOp,ho,hc,hx rfl,asBool]
theorem hz_cond {c:Operand} {x y:Code} (hc:a.eval c=.bool X) (ht:X=true→x.wp P Q a w) (hf:X=false→y.wp P Q a w):(Code.cond c x y).wp P Q a w:=wp_cond_split hc ht hf
theorem hz_join {x y:Code} (L':List (Nat × Value)) (h2:∀ a',Fr a' N L'→y.wp P Q a' w) (h1:∀ K:Act→World→Prop,(∀ a',Fr a' N L'→K a' w)→x.wp P (Exit.then K Q) a w):(Code.seq x y).wp P Q a w :=
 wp_seq_k fun K hK=>h1 K fun a' F'=>hK _ _ (h2 a' F')
theorem hz_loop {α:Type} {c:Code} (I:α→Act→World→Prop) (m:α→Nat) (x0:α) (h0:I x0 a w) (round:∀ x a w,I x a w→∀ K:Act→World→Prop,(∀ y a' w',m y < m x→I y a' w'→K a' w')→c.wp P (Exit.then K Q) a w):(Code.loop c).wp P Q a w :=
 wp_loop_ghost (fun k a w=>∃ x,m x=k∧I x a w) (m x0) ⟨x0,rfl,h0⟩ (by
  rintro k a w ⟨x,rfl,hI⟩;exact round x a w hI _ (fun y a' w' hlt hy=>⟨m y,hlt,y,rfl,hy⟩))
theorem hz_res {fn:Func} {t:Nat} (F:Fr a N L) (h:fn.results=#[.tmp t]) (f:lk L t=some v):(results fn a.tmps).run P w=.ok v w:=gx_res h (F.g t v f)
variable {md:Region.Mode} {S:World→Prop} {fuel:Nat} {listed:Array Bool} {i:Nat}
theorem hzh_take (hi:(Region.noSelect ops&&(Region.free md ops listed i&&(Region.ready md ops listed).contains i))=true):Region.noSelect ops=true∧Region.free md ops listed i=true∧(Region.ready md ops listed).contains i=true:=by
 simpa [Bool.and_eq_true] using hi
theorem hzh_do (F:Fr a N L) (hn:Nat.blt n N=true) (hi:ops[i]?=some ⟨some n,op,ty,ps,af,none⟩) (hr:(Region.noSelect ops&&(Region.free md ops listed i&&(Region.ready md ops listed).contains i))=true)
  (hQ:∀ c a w,Q (.panic c) (a.put (some n) v) w→Q (.panic c) a w) (hS:S w) (h:∀ wz,S wz→(execOp a.eval ⟨some n,op,ty,ps,af,none⟩).run P wz=.ok (.value v) wz)
  (k:∀ a':Act,Fr a' N ((n,v) :: L)→wpAnyH P md ops Q S fuel (listed.setIfInBounds i true) a' w):wpAnyH P md ops Q S (fuel+1) listed a w:=by
 obtain ⟨h1,h2,h3⟩:=hzh_take hr;exact wpAnyH_take (v:=v) hi h1 h2 h3 hQ (Or.inl ⟨gx_w rfl,h⟩) hS (k _ (F.put hn v))
theorem hzh_g (F:Fr a N L) (hn:Nat.blt n N=true) (hi:ops[i]?=some ⟨some n,op,ty,ps,af,some gd⟩) (hr:(Region.noSelect ops&&(Region.free md ops listed i&&(Region.ready md ops listed).contains i))=true)
  (hQ:∀ u c a w,Q (.panic c) (a.put (some n) u) w→Q (.panic c) a w) (hS:S w) (hw:Region.wanted ⟨some n,op,ty,ps,af,some gd⟩ (yielded ops a.tmps)=G) (h:G=true→∀ wz,S wz→(execOp a.eval ⟨some n,op,ty,ps,af,some gd⟩).run P wz=.ok (.value v) wz)
  (k:∀ a':Act,Fr a' N ((n,og G v) :: L)→wpAnyH P md ops Q S fuel (listed.setIfInBounds i true) a' w):wpAnyH P md ops Q S (fuel+1) listed a w:=by
 obtain ⟨h1,h2,h3⟩:=hzh_take hr;cases G with
 | true=>exact wpAnyH_take (v:=v) hi h1 h2 h3 (hQ v) (Or.inl ⟨hw,h rfl⟩) hS (k _ (F.put hn v))
 | false=>exact wpAnyH_take (v:=undef) hi h1 h2 h3 (hQ undef) (Or.inr ⟨hw,rfl⟩) hS (k _ (F.put hn undef))
theorem hzh_callk {f:Nat} {args:Array Value} (F:Fr a N L) (hn:Nat.blt n N=true) (hi:ops[i]?=some ⟨some n,op,ty,ps,af,none⟩) (hr:Region.ready md ops listed=[i])
  (h:(execOp a.eval ⟨some n,op,ty,ps,af,none⟩).run P w=.ok (.enter f args) w) (hc:Calls P f args w fun e w'=>e=.returned v∧Kept No w w') (hS:∀ w',Kept No w w'→S w')
  (k:∀ (w':World) (a':Act),Kept No w w'→S w'→Fr a' N ((n,v) :: L)→wpAnyH P md ops Q S fuel (listed.setIfInBounds i true) a' w'):wpAnyH P md ops Q S (fuel+1) listed a w:=by
 refine gxh_one hi hr (gx_w rfl) ?_;unfold Oper.wp;rw[h];refine hc.mono ?_;rintro e w' ⟨rfl,hk⟩;exact ⟨hS w' hk,k w' _ hk (hS w' hk) (F.put hn v)⟩
theorem hzh_call {f:Nat} {args:Array Value} {R:Value→World→Prop} (F:Fr a N L) (hn:Nat.blt n N=true) (hi:ops[i]?=some ⟨some n,op,ty,ps,af,none⟩) (hr:Region.ready md ops listed=[i])
  (h:(execOp a.eval ⟨some n,op,ty,ps,af,none⟩).run P w=.ok (.enter f args) w) (hc:Calls P f args w fun e w'=>∃ v,e=.returned v∧R v w'∧Kept No w w') (hS:∀ w',Kept No w w'→S w')
  (k:∀ (v:Value) (w':World) (a':Act),R v w'→Kept No w w'→S w'→Fr a' N ((n,v) :: L)→wpAnyH P md ops Q S fuel (listed.setIfInBounds i true) a' w'):wpAnyH P md ops Q S (fuel+1) listed a w:=by
 refine gxh_one hi hr (gx_w rfl) ?_;unfold Oper.wp;rw[h];refine hc.mono ?_;rintro e w' ⟨v,rfl,hR,hk⟩;exact ⟨hS w' hk,k v w' _ hR hk (hS w' hk) (F.put hn v)⟩
theorem hzh_callg {f:Nat} {args:Array Value} (F:Fr a N L) (hn:Nat.blt n N=true) (hi:ops[i]?=some ⟨some n,op,ty,ps,af,some gd⟩) (hr:Region.ready md ops listed=[i])
  (hw:Region.wanted ⟨some n,op,ty,ps,af,some gd⟩ (yielded ops a.tmps)=G) (h:G=true→(execOp a.eval ⟨some n,op,ty,ps,af,some gd⟩).run P w=.ok (.enter f args) w) (hc:G=true→Calls P f args w fun e w'=>e=.returned v∧Kept No w w') (hS:∀ w',Kept No w w'→S w')
  (k:∀ (w':World) (a':Act),Kept No w w'→S w'→Fr a' N ((n,og G v) :: L)→wpAnyH P md ops Q S fuel (listed.setIfInBounds i true) a' w'):wpAnyH P md ops Q S (fuel+1) listed a w:=by
 refine wpAnyH_all hr (by simp) fun j hj=>?_
 obtain rfl:=List.mem_singleton.1 hj;unfold wpOp;simp only[hi];cases G with
 | true =>
  rw[if_pos hw];left;unfold Oper.wp;rw[h rfl];refine (hc rfl).mono ?_;rintro e w' ⟨rfl,hk⟩;exact ⟨hS w' hk,k w' _ hk (hS w' hk) (F.put hn v)⟩
 | false =>
  rw[if_neg (by rw[hw];simp)];exact ⟨hS w (Kept.refl No w),k w _ (Kept.refl No w) (hS w (Kept.refl No w)) (F.put hn undef)⟩
theorem hzh_do1 (F:Fr a N L) (hn:Nat.blt n N=true) (hi:ops[i]?=some ⟨some n,op,ty,ps,af,some gd⟩) (hr:(Region.noSelect ops&&(Region.free md ops listed i&&(Region.ready md ops listed).contains i))=true)
  (hQ:∀ c a w,Q (.panic c) (a.put (some n) v) w→Q (.panic c) a w) (hS:S w) (hw:Region.wanted ⟨some n,op,ty,ps,af,some gd⟩ (yielded ops a.tmps)=true) (h:∀ wz,S wz→(execOp a.eval ⟨some n,op,ty,ps,af,some gd⟩).run P wz=.ok (.value v) wz)
  (k:∀ a':Act,Fr a' N ((n,v) :: L)→wpAnyH P md ops Q S fuel (listed.setIfInBounds i true) a' w):wpAnyH P md ops Q S (fuel+1) listed a w:=by
 obtain ⟨h1,h2,h3⟩:=hzh_take hr;exact wpAnyH_take (v:=v) hi h1 h2 h3 hQ (Or.inl ⟨hw,h⟩) hS (k _ (F.put hn v))
theorem hzh_no (F:Fr a N L) (hn:Nat.blt n N=true) (hi:ops[i]?=some ⟨some n,op,ty,ps,af,some gd⟩) (hr:(Region.noSelect ops&&(Region.free md ops listed i&&(Region.ready md ops listed).contains i))=true)
  (hQ:∀ c a w,Q (.panic c) (a.put (some n) undef) w→Q (.panic c) a w) (hS:S w) (hw:Region.wanted ⟨some n,op,ty,ps,af,some gd⟩ (yielded ops a.tmps)=false)
  (k:∀ a':Act,Fr a' N ((n,undef) :: L)→wpAnyH P md ops Q S fuel (listed.setIfInBounds i true) a' w):wpAnyH P md ops Q S (fuel+1) listed a w:=by
 obtain ⟨h1,h2,h3⟩:=hzh_take hr;exact wpAnyH_take (v:=undef) hi h1 h2 h3 hQ (Or.inr ⟨hw,rfl⟩) hS (k _ (F.put hn undef))
theorem hzh_callk1 {f:Nat} {args:Array Value} (F:Fr a N L) (hn:Nat.blt n N=true) (hi:ops[i]?=some ⟨some n,op,ty,ps,af,some gd⟩) (hr:Region.ready md ops listed=[i]) (hw:Region.wanted ⟨some n,op,ty,ps,af,some gd⟩ (yielded ops a.tmps)=true)
  (h:(execOp a.eval ⟨some n,op,ty,ps,af,some gd⟩).run P w=.ok (.enter f args) w) (hc:Calls P f args w fun e w'=>e=.returned v∧Kept No w w') (hS:∀ w',Kept No w w'→S w')
  (k:∀ (w':World) (a':Act),Kept No w w'→S w'→Fr a' N ((n,v) :: L)→wpAnyH P md ops Q S fuel (listed.setIfInBounds i true) a' w'):wpAnyH P md ops Q S (fuel+1) listed a w:=by
 refine gxh_one hi hr hw ?_;unfold Oper.wp;rw[h];refine hc.mono ?_;rintro e w' ⟨rfl,hk⟩;exact ⟨hS w' hk,k w' _ hk (hS w' hk) (F.put hn v)⟩
theorem hzh_call1 {f:Nat} {args:Array Value} {R:Value→World→Prop} (F:Fr a N L) (hn:Nat.blt n N=true) (hi:ops[i]?=some ⟨some n,op,ty,ps,af,some gd⟩) (hr:Region.ready md ops listed=[i]) (hw:Region.wanted ⟨some n,op,ty,ps,af,some gd⟩ (yielded ops a.tmps)=true)
  (h:(execOp a.eval ⟨some n,op,ty,ps,af,some gd⟩).run P w=.ok (.enter f args) w) (hc:Calls P f args w fun e w'=>∃ v,e=.returned v∧R v w'∧Kept No w w') (hS:∀ w',Kept No w w'→S w')
  (k:∀ (v:Value) (w':World) (a':Act),R v w'→Kept No w w'→S w'→Fr a' N ((n,v) :: L)→wpAnyH P md ops Q S fuel (listed.setIfInBounds i true) a' w'):wpAnyH P md ops Q S (fuel+1) listed a w:=by
 refine gxh_one hi hr hw ?_;unfold Oper.wp;rw[h];refine hc.mono ?_;rintro e w' ⟨v,rfl,hR,hk⟩;exact ⟨hS w' hk,k v w' _ hR hk (hS w' hk) (F.put hn v)⟩
theorem hz_callk1 {M:List Bk} {f:Nat} {args:Array Value} (F:Fr a N L) (H:Hp w0 w M) (hn:Nat.blt n N=true) (hw:Region.wanted ⟨some n,op,ty,ps,af,some gd⟩ (yielded ops a.tmps)=true) (h:(execOp a.eval ⟨some n,op,ty,ps,af,some gd⟩).run P w=.ok (.enter f args) w)
  (hc:Calls P f args w fun e w'=>e=.returned v∧Kept No w w') (k:∀ (w':World) (a':Act),Kept No w w'→Hp w0 w' M→Fr a' N ((n,v) :: L)→wpList P ops Q rest a' w'):wpList P ops Q (⟨some n,op,ty,ps,af,some gd⟩ :: rest) a w:=by
 unfold wpList;rw[if_pos hw];left;unfold Oper.wp;rw[h];refine hc.mono ?_;rintro e w' ⟨rfl,hk⟩;exact k w' _ hk (H.kept hk) (F.put hn v)
theorem hz_call1 {M:List Bk} {f:Nat} {args:Array Value} {R:Value→World→Prop} (F:Fr a N L) (H:Hp w0 w M) (hn:Nat.blt n N=true) (hw:Region.wanted ⟨some n,op,ty,ps,af,some gd⟩ (yielded ops a.tmps)=true) (h:(execOp a.eval ⟨some n,op,ty,ps,af,some gd⟩).run P w=.ok (.enter f args) w)
  (hc:Calls P f args w fun e w'=>∃ v,e=.returned v∧R v w'∧Kept No w w') (k:∀ (v:Value) (w':World) (a':Act),R v w'→Kept No w w'→Hp w0 w' M→Fr a' N ((n,v) :: L)→wpList P ops Q rest a' w'):wpList P ops Q (⟨some n,op,ty,ps,af,some gd⟩ :: rest) a w:=by
 unfold wpList;rw[if_pos hw];left;unfold Oper.wp;rw[h];refine hc.mono ?_;rintro e w' ⟨v,rfl,hR,hk⟩;exact k v w' _ hR hk (H.kept hk) (F.put hn v)
end
set_option maxRecDepth 100000
theorem fn_21 (args:Array Value) (w:World):(callFunc 21 args).run Tryz.prog w=.ok (.enter 21 args) w:=gx_fn Tryz.func21 (by kernel_rfl) rfl args w
theorem fn_57 (args:Array Value) (w:World):(callFunc 57 args).run Tryz.prog w=.ok (.enter 57 args) w:=gx_fn Tryz.func57 (by kernel_rfl) rfl args w
theorem fn_114 (args:Array Value) (w:World):(callFunc 114 args).run Tryz.prog w=.ok (.enter 114 args) w:=gx_fn Tryz.func114 (by kernel_rfl) rfl args w
theorem fn_61 (args:Array Value) (w:World):(callFunc 61 args).run Tryz.prog w=.ok (.enter 61 args) w:=gx_fn Tryz.func61 (by kernel_rfl) rfl args w
theorem fn_156 (args:Array Value) (w:World):(callFunc 156 args).run Tryz.prog w=.ok (.enter 156 args) w:=gx_fn Tryz.func156 (by kernel_rfl) rfl args w
theorem fn_159 (args:Array Value) (w:World):(callFunc 159 args).run Tryz.prog w=.ok (.enter 159 args) w:=gx_fn Tryz.func159 (by kernel_rfl) rfl args w
theorem fn_155 (args:Array Value) (w:World):(callFunc 155 args).run Tryz.prog w=.ok (.enter 155 args) w:=gx_fn Tryz.func155 (by kernel_rfl) rfl args w
theorem fn_59 (args:Array Value) (w:World):(callFunc 59 args).run Tryz.prog w=.ok (.enter 59 args) w:=gx_fn Tryz.func59 (by kernel_rfl) rfl args w
theorem fn_113 (args:Array Value) (w:World):(callFunc 113 args).run Tryz.prog w=.ok (.enter 113 args) w:=gx_fn Tryz.func113 (by kernel_rfl) rfl args w
theorem fn_117 (args:Array Value) (w:World):(callFunc 117 args).run Tryz.prog w=.ok (.enter 117 args) w:=gx_fn Tryz.func117 (by kernel_rfl) rfl args w
theorem fn_158 (args:Array Value) (w:World):(callFunc 158 args).run Tryz.prog w=.ok (.enter 158 args) w:=gx_fn Tryz.func158 (by kernel_rfl) rfl args w
theorem fn_64 (args:Array Value) (w:World):(callFunc 64 args).run Tryz.prog w=.ok (.enter 64 args) w:=gx_fn Tryz.func64 (by kernel_rfl) rfl args w
theorem fn_62 (args:Array Value) (w:World):(callFunc 62 args).run Tryz.prog w=.ok (.enter 62 args) w:=gx_fn Tryz.func62 (by kernel_rfl) rfl args w
theorem fn_188 (args:Array Value) (w:World):(callFunc 188 args).run Tryz.prog w=.ok (.enter 188 args) w:=gx_fn Tryz.func188 (by kernel_rfl) rfl args w
theorem fn_115 (args:Array Value) (w:World):(callFunc 115 args).run Tryz.prog w=.ok (.enter 115 args) w:=gx_fn Tryz.func115 (by kernel_rfl) rfl args w
theorem fn_153 (args:Array Value) (w:World):(callFunc 153 args).run Tryz.prog w=.ok (.enter 153 args) w:=gx_fn Tryz.func153 (by kernel_rfl) rfl args w
theorem fn_116 (args:Array Value) (w:World):(callFunc 116 args).run Tryz.prog w=.ok (.enter 116 args) w:=gx_fn Tryz.func116 (by kernel_rfl) rfl args w
theorem fn_157 (args:Array Value) (w:World):(callFunc 157 args).run Tryz.prog w=.ok (.enter 157 args) w:=gx_fn Tryz.func157 (by kernel_rfl) rfl args w
theorem fn_60 (args:Array Value) (w:World):(callFunc 60 args).run Tryz.prog w=.ok (.enter 60 args) w:=gx_fn Tryz.func60 (by kernel_rfl) rfl args w
theorem fn_63 (args:Array Value) (w:World):(callFunc 63 args).run Tryz.prog w=.ok (.enter 63 args) w:=gx_fn Tryz.func63 (by kernel_rfl) rfl args w
theorem fn_184 (args:Array Value) (w:World):(callFunc 184 args).run Tryz.prog w=.ok (.enter 184 args) w:=gx_fn Tryz.func184 (by kernel_rfl) rfl args w
theorem fn_160 (args:Array Value) (w:World):(callFunc 160 args).run Tryz.prog w=.ok (.enter 160 args) w:=gx_fn Tryz.func160 (by kernel_rfl) rfl args w
theorem fn_152 (args:Array Value) (w:World):(callFunc 152 args).run Tryz.prog w=.ok (.enter 152 args) w:=gx_fn Tryz.func152 (by kernel_rfl) rfl args w
theorem fn_185 (args:Array Value) (w:World):(callFunc 185 args).run Tryz.prog w=.ok (.enter 185 args) w:=gx_fn Tryz.func185 (by kernel_rfl) rfl args w
theorem fn_183 (args:Array Value) (w:World):(callFunc 183 args).run Tryz.prog w=.ok (.enter 183 args) w:=gx_fn Tryz.func183 (by kernel_rfl) rfl args w
theorem fn_187 (args:Array Value) (w:World):(callFunc 187 args).run Tryz.prog w=.ok (.enter 187 args) w:=gx_fn Tryz.func187 (by kernel_rfl) rfl args w
theorem fn_186 (args:Array Value) (w:World):(callFunc 186 args).run Tryz.prog w=.ok (.enter 186 args) w:=gx_fn Tryz.func186 (by kernel_rfl) rfl args w
theorem fn_207 (args:Array Value) (w:World):(callFunc 207 args).run Tryz.prog w=.ok (.enter 207 args) w:=gx_fn Tryz.func207 (by kernel_rfl) rfl args w
def bareP (p:Pk):Pk :=
 if p.kind=1 then { zk 1 with clean:=p.clean,keep:=p.keep,props:=p.props,client:=p.client,hasWill:=p.hasWill,hasUser:=p.hasUser,hasPass:=p.hasPass,willQoS:=if p.hasWill then p.willQoS else 0,willRetain:=if p.hasWill then p.willRetain else false,willProps:=if p.hasWill then p.willProps else [],willTopic:=if p.hasWill then p.willTopic else ⟨#[]⟩,willLoad:=if p.hasWill then p.willLoad else ⟨#[]⟩,user:=if p.hasUser then p.user else ⟨#[]⟩,pass:=if p.hasPass then p.pass else ⟨#[]⟩ }
 else if p.kind=2 then { zk 2 with present:=p.present,code:=p.code,props:=p.props }
 else if p.kind=3 then { zk 3 with dup:=p.dup,qos:=p.qos,retain:=p.retain,topic:=p.topic,id:=p.id,props:=p.props,load:=p.load }
 else if p.kind=4∨p.kind=5∨p.kind=6∨p.kind=7 then { zk p.kind with id:=p.id,code:=p.code,props:=p.props }
 else if p.kind=8∨p.kind=10 then { zk p.kind with id:=p.id,props:=p.props,filters:=p.filters }
 else if p.kind=9∨p.kind=11 then { zk p.kind with id:=p.id,props:=p.props,codes:=p.codes }
 else if p.kind=14∨p.kind=15 then { zk p.kind with code:=p.code,props:=p.props }
 else zk p.kind
def willOkB (p:Pk):Bool:=decide (p.willQoS≤2)&&(nameB p.willTopic&&decide (p.willLoad.size≤65535))
def connectB (v:Int) (p:Pk):Bool :=
 okText p.client&&(okText p.user&&(decide (p.pass.size≤65535)&&((!p.hasWill||willOkB p)&&(decide (v=5)||((p.hasUser||!p.hasPass)&&(p.clean||decide (0 < p.client.size)))))))
def optB (v k:Int) (f:Fi):Bool :=
 if k=10 then decide (f.opt=0) else if 2 < f.opt % 4 then false else if v=4 then decide (f.opt < 4) else if f.opt / 16 % 4=3∨64≤f.opt then false else !sharedB f.text||decide (f.opt / 4 % 2=0)
def filtersB (v:Int) (p:Pk):Bool:=decide (1≤p.filters.length)&&(decide (p.filters.length≤1024)&&p.filters.all fun f=>filterB f.text&&optB v p.kind f)
def codesB (v:Int) (p:Pk):Bool :=
 if v=4∧p.kind=11 then decide (p.codes.length=0) else decide (1≤p.codes.length)&&(decide (p.codes.length≤1024)&&p.codes.all fun c=>ke v p.kind c.toNat)
def fieldsB (v:Int) (p:Pk):Bool :=
 if p.kind=1 then connectB v p
 else if p.kind=2 then ke v p.kind p.code&&(decide (p.code=0)||!p.present)
 else if p.kind=3 then publishB v p
 else if p.kind=4∨p.kind=5∨p.kind=6∨p.kind=7 then !decide (p.id=0)&&ke v p.kind p.code
 else if p.kind=8∨p.kind=10 then !decide (p.id=0)&&filtersB v p
 else if p.kind=9∨p.kind=11 then !decide (p.id=0)&&codesB v p
 else if p.kind=14 then ke v p.kind p.code
 else if p.kind=15 then (getL p.props 21).isSome&&ke v p.kind p.code
 else true
def shortN (v:Int) (p:Pk):Nat:=if v=4∨(p.code=0∧p.props.length=0) then 0 else if p.props.length=0 then 1 else 1+secN v p.props
def filtersN (k:Int):List Fi→Nat
 | []=>0
 | f :: l=>(2+f.text.size+if k=8 then 1 else 0)+filtersN k l
def connectN (v:Int) (p:Pk):Nat:=10+secN v p.props+(2+p.client.size)+(if p.hasWill then secN v p.willProps+(2+p.willTopic.size)+(2+p.willLoad.size) else 0)+(if p.hasUser then 2+p.user.size else 0)+(if p.hasPass then 2+p.pass.size else 0)
def restN (v:Int) (p:Pk):Nat :=
 if p.kind=1 then connectN v p
 else if p.kind=2 then 2+secN v p.props
 else if p.kind=3 then 2+p.topic.size+(if p.qos=0 then 0 else 2)+secN v p.props+p.load.size
 else if p.kind=4∨p.kind=5∨p.kind=6∨p.kind=7 then 2+shortN v p
 else if p.kind=8∨p.kind=10 then 2+secN v p.props+filtersN p.kind p.filters
 else if p.kind=9∨p.kind=11 then 2+secN v p.props+p.codes.length
 else if p.kind=14∨p.kind=15 then shortN v p
 else 0
def rightP (v:Int) (p:Pk):Bool:=existsB v p.kind&&(decide (p=bareP p)&&(propsB v p&&(fieldsB v p&&decide (restN v p≤268435455))))
def optD (v k:Int) (f:Fi):Bool :=
 !(!filterB f.text||(decide (f.opt % 4=3)||((decide (k=10)&&!decide (f.opt=0))||((decide (v=4)&&decide (2 < f.opt))||(decide (48≤f.opt)||(sharedB f.text&&decide (f.opt / 4 % 2=1)))))))
def listsD (v:Int) (p:Pk):Bool :=
 (if p.kind=8∨p.kind=10 then decide (1≤p.filters.length)&&(decide (p.filters.length≤1024)&&p.filters.all fun f=>optD v p.kind f) else true) &&
 ((if p.kind=9∨(p.kind=11∧v=5) then decide (1≤p.codes.length)&&(decide (p.codes.length≤1024)&&p.codes.all fun c=>ke v p.kind c.toNat) else true) &&
  !(decide (p.kind=11)&&(decide (v=4)&&decide (0 < p.codes.length))))
def connectD (v:Int) (p:Pk):Bool :=
 !((p.hasWill&&(decide (2 < p.willQoS)||!nameB p.willTopic))||(decide (v=4)&&((p.hasPass&&!p.hasUser)||(decide (p.client.size=0)&&!p.clean)))) &&
  (decide (p.pass.size≤65535)&&(decide (p.willLoad.size≤65535)&&(okText p.client&&okText p.user)))
def publishD (v:Int) (p:Pk):Bool :=
 if 2 < p.qos∨(p.dup=true∧p.qos=0)∨decide (p.id=0)≠decide (p.qos=0) then false
 else nameB p.topic||(decide (v=5)&&(decide (p.topic.size=0)&&(getL p.props 35).isSome))
def kindD (v:Int) (p:Pk):Bool :=
 if p.kind=1 then connectD v p
 else if p.kind=2 then ke v 2 p.code&&!(p.present&&!decide (p.code=0))
 else if p.kind=3 then publishD v p
 else if p.kind=4∨p.kind=5∨p.kind=6∨p.kind=7∨p.kind=14 then ke v p.kind p.code
 else if p.kind=15 then ke v 15 p.code&&(getL p.props 21).isSome
 else true
def rightD (v:Int) (p:Pk):Bool :=
 existsB v p.kind&&(decide (p=bareP p)&&((!(decide (v=4)&&(decide (0 < p.props.length)||decide (0 < p.willProps.length)))&&(checkB p.kind p.props&&checkB 16 p.willProps)) &&
  (!(decide (4≤p.kind)&&(decide (p.kind≤11)&&decide (p.id=0)))&&(listsD v p&&kindD v p))))
theorem exists_v {v k:Int} (h:existsB v k=true):(v=4∨v=5)∧1≤k∧k≤15:=by
 simp only[existsB,Bool.or_eq_true,Bool.and_eq_true,decide_eq_true_eq]at h;omega
structure Fit (p:Pk):Prop where
 few:p.few
 wf:Wf p
 r:Reach p
 qos:p.qos < 256
 id:p.id < 65536
 keep:p.keep < 65536
 wq:p.willQoS < 256
 code:p.code < 256
 opt:∀ f∈p.filters,f.opt < 256
theorem all_fail {α:Type} {L:List α} {P:α→Bool} {j:Nat} (hj:j < L.length) (h:P L[j]=false):L.all P=false:=by
 rw[List.all_eq_false];exact ⟨L[j],List.getElem_mem hj,by simp[h]⟩
theorem all_step {α:Type} {L:List α} {P:α→Bool} {j:Nat} (hj:j < L.length) (h0:(L.take j).all P=true) (h:P L[j]=true):(L.take (j+1)).all P=true:=by
 rw[List.take_succ_eq_append_getElem hj,List.all_append,h0];simp[h]
theorem all_end {α:Type} {L:List α} {P:α→Bool} {j:Nat} (hj:¬ j < L.length) (h0:(L.take j).all P=true):L.all P=true:=by
 rwa [List.take_of_length_le (by omega)]at h0
theorem Row.byte {w:World} {a:Option Addr} {l:List UInt8} (h:Row w a (B8 l)) {k:Nat} (hk:k < l.length):∃ b off,a=some ⟨b,off,none⟩∧b < w.heap.size∧w.cell? ⟨b,off+k * 1,none⟩=some (.int .u8 (l[k].toNat:Int)):=by
 obtain ⟨b,off,ha,hb,hc⟩:=h.at_ (k:=k) (by simpa using hk);refine ⟨b,off,ha,hb,?_⟩;rw[Nat.mul_one,hc];simp[B8]
def optC (v k:Int) (f:Fi):Bool :=
 match decide (k=10) with
 | true=>decide (f.opt=0)
 | false=>match decide (2 < (f.opt &&& 3)) with
  | true=>false
  | false=>match decide (v=4) with
   | true=>decide ((f.opt &&& 252)=0)
   | false=>match decide ((f.opt &&& 48)=48) with
    | true=>false
    | false=>match !decide ((f.opt &&& 192)=0) with
     | true=>false
     | false=>match !sharedB f.text with
      | true=>true
      | false=>decide ((f.opt &&& 4)=0)
theorem bits_opt:∀ n:Fin 256,(n.val &&& 3)=n.val % 4∧((n.val &&& 252)=0↔n.val < 4)∧((n.val &&& 48)=48↔n.val / 16 % 4=3)∧((n.val &&& 192)=0↔n.val < 64)∧((n.val &&& 4)=0↔n.val / 4 % 2=0):=by decide +kernel
theorem optC_eq (v k:Int) (f:Fi) (h:f.opt < 256):optC v k f=optB v k f:=by
 obtain ⟨h1,h2,h3,h4,h5⟩:=bits_opt ⟨f.opt,h⟩;simp only at h1 h2 h3 h4 h5;unfold optC optB
 by_cases hk:k=10
 ·simp[hk]
 rw[if_neg hk,decide_eq_false hk]
 by_cases ha:2 < f.opt % 4
 ·rw[if_pos ha,decide_eq_true (by omega:2 < (f.opt &&& 3))]
 rw[if_neg ha,decide_eq_false (by omega:¬ 2 < (f.opt &&& 3))]
 by_cases hv:v=4
 ·rw[if_pos hv,decide_eq_true hv]
  simp only[h2]
 rw[if_neg hv,decide_eq_false hv]
 by_cases hb:f.opt / 16 % 4=3
 ·rw[if_pos (.inl hb),decide_eq_true (h3.2 hb)]
 rw[decide_eq_false (fun h=>hb (h3.1 h):¬ (f.opt &&& 48)=48)]
 by_cases hc:64≤f.opt
 ·rw[if_pos (.inr hc),decide_eq_false (fun h=>by have:=h4.1 h;omega:¬ (f.opt &&& 192)=0)]
  rfl
 ·rw[if_neg (by omega),decide_eq_true (h4.2 (by omega))]
  cases sharedB f.text<;>simp[h5]
theorem nat_le1 (m:Nat):decide (1≤m) = !decide (m=0):=by cases m<;>simp
theorem nat_le (m k:Nat):decide (m≤k) = !decide (k < m):=by rw[Bool.eq_iff_iff];simp
theorem filtersN_le (k:Int):∀ (L:List Fi),(∀ f∈L,f.text.size≤65535)→filtersN k L≤L.length * 65538
 | [],_=>by simp[filtersN]
 | f :: L,h=>by
  have h1:=filtersN_le k L (fun g hg=>h g (List.mem_cons_of_mem _ hg));have h2:=h f (List.mem_cons_self ..);simp only[filtersN,List.length_cons]
  split<;>omega
theorem filtersN_app (k:Int) (f:Fi):∀ (L:List Fi),filtersN k (L++[f])=filtersN k L+(2+f.text.size+if k=8 then 1 else 0)
 | []=>by simp[filtersN]
 | g :: L=>by simp only[List.cons_append,filtersN,filtersN_app k f L];omega
theorem filtersN_step (k:Int) {L:List Fi} {j:Nat} (hj:j < L.length):filtersN k (L.take (j+1))=filtersN k (L.take j)+(2+L[j].text.size+if k=8 then 1 else 0):=by
 rw[List.take_succ_eq_append_getElem hj,filtersN_app]
end Go.Proofs.YtdeecgmihfakgaaGreatDoor
