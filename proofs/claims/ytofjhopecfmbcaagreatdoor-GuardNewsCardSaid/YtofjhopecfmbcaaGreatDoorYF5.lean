import Derived.Test.YtofjhopecfmbcaaGreatDoorYF3
import Derived.Laws.Tables
import Derived.Laws.IdiomCopy
import Derived.Deep.RegionHeld3
namespace Go.Proofs.YtofjhopecfmbcaaGreatDoor
open Go.RowKit
set_option linter.unusedVariables false
set_option linter.unusedSimpArgs false
instance:Inhabited Pr:=⟨Pr.zero⟩
def sortL (L:List Pr):List Pr:=L.mergeSort (fun p q=>decide (p.id≤q.id))
def Srt (L:List Pr):Prop:=L.Pairwise fun p q=>p.id≤q.id
def idf (i:Nat) (L:List Pr):List Pr:=L.filter fun p=>decide (p.id=i)
def Ste (L M:List Pr):Prop:=∀ i,idf i L=idf i M
theorem Ste.refl (L:List Pr):Ste L L:=fun _=>rfl
theorem Ste.symm {L M:List Pr} (h:Ste L M):Ste M L:=fun i=>(h i).symm
theorem Ste.trans {L M N:List Pr} (h:Ste L M) (k:Ste M N):Ste L N:=fun i=>(h i).trans (k i)
theorem idf_append (i:Nat) (L M:List Pr):idf i (L++M)=idf i L++idf i M:=by simp[idf]
theorem Ste.append {L L' M M':List Pr} (h:Ste L L') (k:Ste M M'):Ste (L++M) (L'++M'):=fun i=>by rw[idf_append,idf_append,h i,k i]
theorem idf_pos {i:Nat} {p:Pr} {L:List Pr} (h:p.id=i):idf i (p :: L)=p :: idf i L:=by simp[idf,h]
theorem idf_neg {i:Nat} {p:Pr} {L:List Pr} (h:p.id≠i):idf i (p :: L)=idf i L:=by simp[idf,h]
theorem idf_nil {i:Nat} {L:List Pr} (h:∀ x∈L,x.id≠i):idf i L=[]:=by
 unfold idf;rw[List.filter_eq_nil_iff];intro x hx;simpa using h x hx
theorem srt_uniq:∀ {L M:List Pr},Srt L→Srt M→Ste L M→L=M
 | [],[],_,_,_=>rfl
 | [],q :: M,_,_,h=>by have:=h q.id;rw[idf_pos rfl]at this;cases this
 | p :: L,[],_,_,h=>by have:=h p.id;rw[idf_pos rfl]at this;cases this
 | p :: L,q :: M,hL,hM,h=>by
  have a:=List.pairwise_cons.1 hL;have b:=List.pairwise_cons.1 hM
  have hpq:p.id=q.id:=by
   rcases Nat.lt_trichotomy p.id q.id with hlt|he|hlt
   ·have h1:=h p.id
    rw[idf_pos rfl,idf_nil (L:=q :: M)]at h1
    ·cases h1
    ·intro x hx
     rcases List.mem_cons.1 hx with rfl|hx
     ·omega
     ·have:=b.1 x hx;omega
   ·exact he
   ·have h1:=h q.id
    rw[idf_pos (p:=q) rfl,idf_nil (L:=p :: L)]at h1
    ·cases h1
    ·intro x hx
     rcases List.mem_cons.1 hx with rfl|hx
     ·omega
     ·have:=a.1 x hx;omega
  have h1:=h p.id;rw[idf_pos rfl,idf_pos hpq.symm]at h1;injection h1 with e1 e2;subst e1;rw[srt_uniq a.2 b.2 fun i=>?_];have h3:=h i
  by_cases hi:p.id=i
  ·rw[idf_pos hi,idf_pos hi]at h3
   injection h3
  ·rwa [idf_neg hi,idf_neg hi]at h3
theorem sortL_srt (L:List Pr):Srt (sortL L):=by
 have h:=List.pairwise_mergeSort (le:=fun p q:Pr=>decide (p.id≤q.id)) (by intro a b c;simp;omega) (by intro a b;simp;omega) L;exact h.imp fun h=>by simpa using h
theorem sortL_perm (L:List Pr):(sortL L).Perm L:=List.mergeSort_perm _ _
theorem sortL_length (L:List Pr):(sortL L).length=L.length:=(sortL_perm L).length_eq
theorem sortL_mem {L:List Pr} {x:Pr}:x∈sortL L↔x∈L:=(sortL_perm L).mem_iff
theorem sortL_ste (L:List Pr):Ste L (sortL L):=fun i=>by
 have h1:(idf i L).Pairwise (fun p q:Pr=>decide (p.id≤q.id)=true):=by
  rw[List.pairwise_iff_forall_sublist];intro a b hs;have ha:a∈idf i L:=hs.subset (by simp);have hb:b∈idf i L:=hs.subset (by simp);have ha2:a.id=i:=by simpa using (List.mem_filter.1 ha).2
  have hb2:b.id=i:=by simpa using (List.mem_filter.1 hb).2
  simp;omega
 have h2:(idf i L).Sublist (sortL L):=List.sublist_mergeSort (le:=fun p q:Pr=>decide (p.id≤q.id)) (by intro a b c;simp;omega) (by intro a b;simp;omega) h1 List.filter_sublist;have h3:(idf i (idf i L)).Sublist (idf i (sortL L)):=h2.filter _;have h4:idf i (idf i L)=idf i L:=by unfold idf;rw[List.filter_filter];simp
 rw[h4]at h3;exact h3.eq_of_length ((sortL_perm L).filter _).length_eq.symm
theorem sortL_eq {L M:List Pr} (h:Srt M) (k:Ste L M):sortL L=M:=srt_uniq (sortL_srt L) h ((sortL_ste L).symm.trans k)
theorem sortL_of {L:List Pr} (h:Srt L):sortL L=L:=sortL_eq h (Ste.refl L)
theorem sortL_congr {L M:List Pr} (h:Ste L M):sortL L=sortL M:=sortL_eq (sortL_srt M) (h.trans (sortL_ste M))
theorem Srt.append {L M:List Pr} (h:Srt L) (k:Srt M) (c:∀ x∈L,∀ y∈M,x.id≤y.id):Srt (L++M):=List.pairwise_append.2 ⟨h,k,c⟩
theorem Srt.left {L M:List Pr} (h:Srt (L++M)):Srt L:=(List.pairwise_append.1 h).1
theorem Srt.right {L M:List Pr} (h:Srt (L++M)):Srt M:=(List.pairwise_append.1 h).2.1
theorem Srt.cross {L M:List Pr} (h:Srt (L++M)):∀ x∈L,∀ y∈M,x.id≤y.id:=(List.pairwise_append.1 h).2.2
theorem Srt.one (p:Pr):Srt [p]:=List.pairwise_singleton _ _
theorem Srt.nil:Srt []:=List.Pairwise.nil
theorem sortL_split {U1 U2 V1 V2:List Pr} (hU:Srt (U1++U2)) (hV:Srt (V1++V2)) (h1:∀ x∈U1,∀ y∈V2,x.id≤y.id) (h2:∀ y∈V1,∀ x∈U2,y.id < x.id) :
  sortL ((U1++U2)++(V1++V2))=sortL (U1++V1)++sortL (U2++V2):=by
 refine sortL_eq ((sortL_srt _).append (sortL_srt _) fun x hx y hy=>?_) ?_
 ·rw[sortL_mem,List.mem_append]at hx hy
  rcases hx with hx|hx<;>rcases hy with hy|hy
  ·exact hU.cross x hx y hy
  ·exact h1 x hx y hy
  ·exact Nat.le_of_lt (h2 x hx y hy)
  ·exact hV.cross x hx y hy
 ·have e:Ste ((U1++U2)++(V1++V2)) ((U1++V1)++(U2++V2)):=fun i=>by
   simp only[idf_append,List.append_assoc]
   congr 1
   rw[← List.append_assoc,← List.append_assoc]
   congr 1
   by_cases hv:∃ y∈V1,y.id=i
   ·obtain ⟨y,hy,rfl⟩:=hv
    rw[idf_nil (L:=U2) fun x hx=>by have:=h2 y hy x hx;omega];simp
   ·rw[idf_nil (L:=V1) fun x hx he=>hv ⟨x,hx,he⟩]
    simp
  exact e.trans ((sortL_ste _).append (sortL_ste _))
theorem sortL_front {x:Pr} {V1 V2:List Pr} (hV:Srt (V1++V2)) (h1:∀ y∈V1,y.id < x.id) (h2:∀ y∈V2,x.id≤y.id):sortL ([x]++(V1++V2))=V1++x :: V2:=by
 have h:=sortL_split (U1:=[]) (U2:=[x]) (V1:=V1) (V2:=V2) (Srt.one x) hV (by simp) (fun y hy z hz=>by simp at hz;subst hz;exact h1 y hy);simp only[List.nil_append]at h;rw[h,sortL_of hV.left,sortL_of ((Srt.one x).append hV.right fun a ha b hb=>by simp at ha;subst ha;exact h2 b hb)]
 rfl
theorem sortL_back {y:Pr} {U1 U2:List Pr} (hU:Srt (U1++U2)) (h1:∀ x∈U1,x.id≤y.id) (h2:∀ x∈U2,y.id < x.id):sortL ((U1++U2)++[y])=U1++y :: U2:=by
 have h:=sortL_split (U1:=U1) (U2:=U2) (V1:=[y]) (V2:=[]) hU (by simpa using Srt.one y) (by simp) (fun z hz x hx=>by simp at hz;subst hz;exact h2 x hx);simp only[List.append_nil]at h;rw[h,sortL_of hU.right,sortL_of (hU.left.append (Srt.one y) fun a ha b hb=>by simp at hb;subst hb;exact h1 a ha)];simp
theorem get_mid (P U R:List Pr) (k:Nat) (h:k < U.length):(P++(U++R))[P.length+k]! = U[k]!:=by
 simp[List.getElem!_eq_getElem?_getD,List.getElem?_append_right,List.getElem?_append_left,h]
theorem get_pos (U:List Pr) (k:Nat) (h:k < U.length):U[k]! = U[k]:=by
 simp[List.getElem!_eq_getElem?_getD,h]
theorem srt_get {U:List Pr} (hU:Srt U) {i j:Nat} (hij:i≤j) (hj:j < U.length):U[i]!.id≤U[j]!.id:=by
 rw[get_pos U i (by omega),get_pos U j hj];rcases Nat.eq_or_lt_of_le hij with rfl|h
 ·exact Nat.le_refl _
 ·exact (List.pairwise_iff_getElem.1 hU) i j (by omega) hj h
theorem mem_take_get {U:List Pr} {s:Nat} {x:Pr} (h:x∈U.take s):∃ i,i < s∧i < U.length∧x=U[i]!:=by
 obtain ⟨i,hi,he⟩:=List.mem_take_iff_getElem.1 h;exact ⟨i,by omega,by omega,by rw[get_pos U i (by omega)];exact he.symm⟩
theorem mem_drop_get {U:List Pr} {s:Nat} {x:Pr} (h:x∈U.drop s):∃ i,s≤i∧i < U.length∧x=U[i]!:=by
 obtain ⟨i,hi,he⟩:=List.mem_drop_iff_getElem.1 h;exact ⟨s+i,by omega,by omega,by rw[get_pos U (s+i) (by omega)];exact he.symm⟩
theorem le_split {U V:List Pr} (hU:Srt U) (hV:Srt V) {s e:Nat} (hs:s≤U.length) (h:s=0∨e=V.length∨U[s - 1]!.id≤V[e]!.id):∀ x∈U.take s,∀ y∈V.drop e,x.id≤y.id:=by
 intro x hx y hy;obtain ⟨i,h1,h2,rfl⟩:=mem_take_get hx;obtain ⟨j,h3,h4,rfl⟩:=mem_drop_get hy;rcases h with h|h|h
 ·omega
 ·omega
 ·have a:=srt_get hU (i:=i) (j:=s - 1) (by omega) (by omega)
  have b:=srt_get hV (i:=e) (j:=j) (by omega) (by omega);omega
theorem lt_split {U V:List Pr} (hU:Srt U) (hV:Srt V) {s e:Nat} (he:e≤V.length) (h:e=0∨s=U.length∨V[e - 1]!.id < U[s]!.id):∀ y∈V.take e,∀ x∈U.drop s,y.id < x.id:=by
 intro y hy x hx;obtain ⟨i,h1,h2,rfl⟩:=mem_take_get hy;obtain ⟨j,h3,h4,rfl⟩:=mem_drop_get hx;rcases h with h|h|h
 ·omega
 ·omega
 ·have a:=srt_get hV (i:=i) (j:=e - 1) (by omega) (by omega)
  have b:=srt_get hU (i:=s) (j:=j) (by omega) (by omega);omega
def cfP (x y:Pr):Int:=if x.id < y.id then -1 else if y.id < x.id then 1 else 0
theorem cfP_lt {x y:Pr}:cfP x y < 0↔x.id < y.id:=by
 unfold cfP
 split
 ·simp;assumption
 ·split<;>simp<;>omega
set_option maxRecDepth 100000
theorem infoS_prop:(Tryz.prog.info? 95).map (fun i=>(i.zero,i.size,i.bytes))=some (some (.agg #[.int .u8 0,.int .u32 0,.string ⟨#[]⟩,.string ⟨#[]⟩]),4,40):=by kernel_rfl
def Dat (t:TypeId) (w:World) (g:Nat) (X:List Value) (L:List Pr):Prop:=Blk w g t (PC L++X).toArray
theorem Dat.lt {t:TypeId} {w:World} {g:Nat} {X:List Value} {L:List Pr} (h:Dat t w g X L):g < w.heap.size:=Blk.lt h
theorem Dat.kept {t:TypeId} {w w':World} {S:Nat→Prop} {g:Nat} {X:List Value} {L:List Pr} (h:Dat t w g X L) (hk:Kept S w w') (hS:¬ S g):Dat t w' g X L:=Blk.kept h hk hS
theorem PC_at (A R:List Pr) (x:Pr) (X:List Value):PC (A++x :: R)++X=PC A++(x.cells++(PC R++X)):=by
 rw[PC_append,PC_cons];simp
theorem Dat.cellx {t:TypeId} {w:World} {g:Nat} {X:List Value} {A R:List Pr} {x:Pr} (h:Dat t w g X (A++x :: R)) (j:Nat) (hj:j < 4):w.cell? ⟨g,A.length * 4+j,none⟩=x.cells[j]?:=by
 unfold Dat at h;rw[h.cell,PC_at];simp only[List.getElem?_toArray];rw[List.getElem?_append_right (by rw[PC_length];omega),PC_length,Nat.add_sub_cancel_left,List.getElem?_append_left (by simpa [Pr.cells] using hj)]
theorem Dat.cells {t:TypeId} {w:World} {g:Nat} {X:List Value} {A R:List Pr} {x:Pr} (h:Dat t w g X (A++x :: R)) {i:Nat} (hi:i=A.length) :
  w.cell? ⟨g,i * 4,none⟩=some (.int .u8 x.id)∧w.cell? ⟨g,i * 4+1,none⟩=some (.int .u32 x.n)∧w.cell? ⟨g,i * 4+2,none⟩=some (.string x.a)∧w.cell? ⟨g,i * 4+3,none⟩=some (.string x.b):=by
 subst hi;exact ⟨h.cellx 0 (by decide),h.cellx 1 (by decide),h.cellx 2 (by decide),h.cellx 3 (by decide)⟩
theorem run_loadP (x:Pr) (g p:Nat) (w:World) (h0:w.cell? ⟨g,p,none⟩=some (.int .u8 x.id)) (h1:w.cell? ⟨g,p+1,none⟩=some (.int .u32 x.n)) (h2:w.cell? ⟨g,p+2,none⟩=some (.string x.a)) (h3:w.cell? ⟨g,p+3,none⟩=some (.string x.b)) :
  (Instr.loadAt 95 (.pointer (some ⟨g,p,none⟩))).run Tryz.prog w=.ok x.val w:=by
 have u:=Tryz.underlying95
 go_simp
 rfl
theorem Dat.load {w:World} {g:Nat} {X:List Value} {A R:List Pr} {x:Pr} (h:Dat 95 w g X (A++x :: R)) {i:Nat} (hi:i=A.length) :
  (Instr.loadAt 95 (.pointer (some ⟨g,i * 4,none⟩))).run Tryz.prog w=.ok x.val w:=by
 obtain ⟨q0,q1,q2,q3⟩:=h.cells hi;exact run_loadP x g (i * 4) w q0 q1 q2 q3
def setMany (F:Array Value):Nat→List Value→Array Value
 | _,[]=>F
 | s,v :: r=>setMany (F.setIfInBounds s v) (s+1) r
theorem setMany_mid:∀ (vs mid A C:List Value),mid.length=vs.length→setMany (A++(mid++C)).toArray A.length vs=(A++(vs++C)).toArray
 | [],mid,A,C,h=>by
  have:mid=[]:=List.length_eq_zero_iff.1 (by simpa using h)
  subst this
  rfl
 | v :: r,[],A,C,h=>by simp at h
 | v :: r,m :: mid,A,C,h=>by
  rw[setMany]
  have e1:(A++(m :: mid++C)).toArray.setIfInBounds A.length v=((A++[v])++(mid++C)).toArray:=by
   simp[List.set_append_right]
  have e2:A.length+1=(A++[v]).length:=by simp
  rw[e1,e2,setMany_mid r mid (A++[v]) C (by simpa using h)];simp
theorem blk_setCells {g:Nat} {t:TypeId}:∀ (vs:List Value) (p:Nat) (w:World) (cs:Array Value),Blk w g t cs→Blk (w.setCells g p vs) g t (setMany cs p vs)
 | [],_,_,_,h=>h
 | v :: r,p,w,cs,h=>blk_setCells r (p+1) _ _ (h.set_ p v)
theorem kept_setCells {g:Nat} {w0:World}:∀ (vs:List Value) (p:Nat) (w:World),Kept (One g) w0 w→Kept (One g) w0 (w.setCells g p vs)
 | [],_,_,h=>h
 | v :: r,p,w,h=>kept_setCells r (p+1) _ (h.setCell (p:=⟨g,p,none⟩) (.inr rfl) v)
theorem Dat.store {w:World} {g:Nat} {X:List Value} {A R:List Pr} {x:Pr} (p:Pr) (h:Dat 95 w g X (A++x :: R)) {i:Nat} (hi:i=A.length) :
  ∃ w',(Instr.storeAt 95 (.pointer (some ⟨g,i * 4,none⟩)) p.val).run Tryz.prog w=.ok () w'∧Dat 95 w' g X (A++p :: R)∧Kept (One g) w w':=by
 subst hi
 have hB:Blk w g 95 (PC A++(x.cells++(PC R++X))).toArray:=by
  have h2:=h;unfold Dat at h2
  rwa [PC_at]at h2
 have hc:∀ j,j < p.cells.length→(w.cell? ⟨g,A.length * 4+0+j,none⟩).isSome=true:=fun j hj=>by
  have hj4:j < 4:=by simpa [Pr.cells] using hj
  rw[Nat.add_zero,h.cellx j hj4]
  have:j < x.cells.length:=by simpa [Pr.cells] using hj4
  rw[List.getElem?_eq_getElem this]
  rfl
 have hf:∀ j,j < p.cells.length→w.frozen? ⟨g,A.length * 4+0+j,none⟩=false:=fun j _=>hB.frozen _
 have h1:∀ v∈p.cells,v.oneCell'=true:=fun v hv=>PC_cell1 [p] v (by rw[PC_one];exact hv)
 have hrun:=run_storeCells_cells (P:=Tryz.prog) g (A.length * 4) p.cells 0 w hc hf h1;obtain ⟨i0,hi,hz0,hz1,hz2⟩:=info_parts infoS_prop;refine ⟨w.setCells g (A.length * 4) p.cells,?_,?_,kept_setCells _ _ _ (Kept.refl _ _)⟩
 ·have e5:(Instr.storeAt 95 (.pointer (some ⟨g,A.length * 4,none⟩)) p.val).run Tryz.prog w=(storeVar 95 ⟨g,A.length * 4,none⟩ p.val).run Tryz.prog w:=by rfl
  rw[e5];have e6:p.val.cells.toList=p.cells:=rfl;simp only[Nat.add_zero]at hrun;simp[storeVar,sizeOf,typeInfo,hi,Pr.val,Value.cells,hz1];exact hrun
 ·have:=blk_setCells p.cells (A.length * 4) w _ hB
  have e:A.length * 4=(PC A).length:=(PC_length A).symm;unfold Dat;rw[PC_at];rw[e]at this ⊢;rw[setMany_mid p.cells x.cells (PC A) (PC R++X) rfl]at this;exact this
theorem Dat.swap1 {w:World} {g:Nat} {X:List Value} {A B C:List Pr} {u v:Pr} (h:Dat 95 w g X (A++u :: (B++v :: C))) {i j:Nat} (hi:i=A.length) (hj:j=A.length+1+B.length) :
  ∃ w1,(Instr.storeAt 95 (.pointer (some ⟨g,i * 4,none⟩)) v.val).run Tryz.prog w=.ok () w1∧Kept (One g) w w1 ∧
   ∃ w2,(Instr.storeAt 95 (.pointer (some ⟨g,j * 4,none⟩)) u.val).run Tryz.prog w1=.ok () w2∧Kept (One g) w1 w2∧Dat 95 w2 g X (A++v :: (B++u :: C)):=by
 obtain ⟨w1,e1,d1,k1⟩:=h.store v hi;have d1':Dat 95 w1 g X ((A++v :: B)++v :: C):=by simpa using d1
 obtain ⟨w2,e2,d2,k2⟩:=d1'.store u (i:=j) (by simp;omega);exact ⟨w1,e1,k1,w2,e2,k2,by simpa using d2⟩
theorem Dat.swap2 {w:World} {g:Nat} {X:List Value} {A B C:List Pr} {u v:Pr} (h:Dat 95 w g X (A++u :: (B++v :: C))) {i j:Nat} (hi:i=A.length) (hj:j=A.length+1+B.length) :
  ∃ w1,(Instr.storeAt 95 (.pointer (some ⟨g,j * 4,none⟩)) u.val).run Tryz.prog w=.ok () w1∧Kept (One g) w w1 ∧
   ∃ w2,(Instr.storeAt 95 (.pointer (some ⟨g,i * 4,none⟩)) v.val).run Tryz.prog w1=.ok () w2∧Kept (One g) w1 w2∧Dat 95 w2 g X (A++v :: (B++u :: C)):=by
 have h':Dat 95 w g X ((A++u :: B)++v :: C):=by simpa using h
 obtain ⟨w1,e1,d1,k1⟩:=h'.store u (i:=j) (by simp;omega);have d1':Dat 95 w1 g X (A++u :: (B++u :: C)):=by simpa using d1
 obtain ⟨w2,e2,d2,k2⟩:=d1'.store v hi;exact ⟨w1,e1,k1,w2,e2,k2,d2⟩
theorem run_valueS {P:Program} {s:Sem Value} {v:Value} {w w':World} (h:s.run P w=.ok v w'):(do pure (Next.value (← s)):Sem Next).run P w=.ok (.value v) w':=by
 simp[h,Result.andThen]
theorem op_loadN {P:Program} {o:Oper} {a:Act} {w:World} {K:Act→World→Prop} {Q:Exit→Act→World→Prop} (S:TypeId) (s:Operand) {v u:Value} (hop:o.op=Op.load S s)
  (hs:a.eval s=v) (hrun:(Instr.loadAt S v).run P w=.ok u w) (hK:K (a.put o.dst u) w):o.wp P a w K Q:=by
 unfold Oper.wp;simp only[execOp,hop,hs];simp[hrun,Result.andThen];exact hK
theorem op_storeS {P:Program} {o:Oper} {a:Act} {w w':World} {K:Act→World→Prop} {Q:Exit→Act→World→Prop} (S:TypeId) (s x:Operand) {v u:Value} (hop:o.op=Op.store S s x)
  (hs:a.eval s=v) (hx:a.eval x=u) (hrun:(Instr.storeAt S v u).run P w=.ok () w') (hK:K (a.put o.dst undef) w'):o.wp P a w K Q:=by
 unfold Oper.wp;simp only[execOp,hop,hs,hx];simp[hrun,Result.andThen];exact hK
theorem isnan_any (x:Nat) (w:World):Calls Tryz.prog 189 #[.int .u8 x] w fun e w'=>e=.returned (.bool false)∧w=w':=by
 go_enter Tryz.func189,Tryz.ntmps189
 go_wp2
 go_ret
 exact ⟨rfl,rfl⟩
def cfN (x y:Nat):Int:=if x < y then -1 else if y < x then 1 else 0
theorem compare_any (x y:Nat) (w:World):Calls Tryz.prog 177 #[.int .u8 x,.int .u8 y] w fun e w'=>e=.returned (.int .i64 (cfN x y))∧w=w':=by
 rcases Nat.lt_trichotomy x y with h|h|h
 ·have hc:cfN x y = -1:=by simp[cfN,h]
  have hI:(x:Int) < (y:Int):=by omega
  rw[hc];clear hc
  go_enter Tryz.func177,Tryz.ntmps177
  go_wp2_with (go_at_call 189;refine (isnan_any _ _).mono ?_;rintro e w' ⟨rfl,rfl⟩)
  go_ret
  exact ⟨rfl,rfl⟩
 ·subst h
  have hc:cfN x x=0:=by simp[cfN]
  rw[hc];clear hc
  go_enter Tryz.func177,Tryz.ntmps177
  go_wp2_with (go_at_call 189;refine (isnan_any _ _).mono ?_;rintro e w' ⟨rfl,rfl⟩)
  go_ret
  exact ⟨rfl,rfl⟩
 ·have hc:cfN x y=1:=by simp[cfN];omega
  have hI:¬ (x:Int) < (y:Int):=by omega
  have hI2:(y:Int) < (x:Int):=by omega
  rw[hc];clear hc
  go_enter Tryz.func177,Tryz.ntmps177
  go_wp2_with (go_at_call 189;refine (isnan_any _ _).mono ?_;rintro e w' ⟨rfl,rfl⟩)
  go_ret
  exact ⟨rfl,rfl⟩
theorem cfP_eq (x y:Pr):cfP x y=cfN x.id y.id:=rfl
theorem cmp_any (x y:Pr) (w:World):Calls Tryz.prog 176 #[x.val,y.val] w fun e w'=>e=.returned (.int .i64 (cfP x y))∧Kept No w w':=by
 rw[cfP_eq];obtain ⟨i1,n1,a1,b1⟩:=x;obtain ⟨i2,n2,a2,b2⟩:=y;show Calls _ _ #[.agg #[.int .u8 i1,.int .u32 n1,.string a1,.string b1],.agg #[.int .u8 i2,.int .u32 n2,.string a2,.string b2]] w _;dsimp only;generalize hc:cfN i1 i2=c;have cC:∀ wx,Calls Tryz.prog 177 #[.int .u8 i1,.int .u8 i2] wx fun e w'=>e=.returned (.int .i64 c)∧wx=w':=fun wx=>by rw[← hc];exact compare_any i1 i2 wx
 have HC:=Lib.hid cC;clear cC hc
 go_enter Tryz.func176,Tryz.ntmps176
 go_wp2_with (go_at_call 177;refine (HC.out _).mono ?_;rintro e w' ⟨rfl,rfl⟩)
 first
  | (go_ret;exact ⟨rfl,((Kept.refl No w).alloc _).alloc _⟩)
  | (go_ret;exact ⟨rfl,(((Kept.refl No w).alloc _).alloc _).drew⟩)
def Turns (t:TypeId) (g:Nat) (X:List Value) (L:List Pr) (w:World) (e:Ending) (w':World):Prop:=e=.returned (.tuple #[])∧Dat t w' g X L∧Kept (One g) w w'
set_option maxHeartbeats 4000000 in
theorem swaprange_any (g c:Nat) (X:List Value) (f:Value) (P U M V S:List Pr) (N n a b:Nat) (hN:N=(P++(U++(M++(V++S)))).length) (hn:U.length=n) (hv:V.length=n) (ha:a=P.length) (hb:b=P.length+n+M.length) (hNb:N≤100000)
  (w:World) (hd:Dat 95 w g X (P++(U++(M++(V++S))))) :
  Calls Tryz.prog 199 #[.slice (some ⟨g,0,none⟩) N c,.int .i64 a,.int .i64 b,.int .i64 n,f] w (Turns 95 g X (P++(V++(M++(U++S)))) w):=by
 have hNl:P.length+n+M.length+n+S.length=N:=by subst hN;simp;omega
 have HD:=Lib.hid hd;have HN:=Lib.hid hn;have HV:=Lib.hid hv;have HA:=Lib.hid ha;have HB:=Lib.hid hb;have hab:a+n≤b:=by omega
 have hbn:b+n≤N:=by omega
 clear hd hn hv ha hb hN hNl
 go_enter Tryz.func199,Tryz.ntmps199
 go_wp2
 go_loopw [10] (fun i wr=>∃ (k:Nat) (V1 V2 U1 U2:List Pr),i=.int .i64 k∧k≤n∧Hid (U=U1++U2∧V=V1++V2∧U1.length=k∧V1.length=k)∧Hid (Dat 95 wr g X (P++(V1++(U2++(M++(U1++(V2++S)))))))∧Kept (One g) w wr) (fun i _=>n - (intOf i).toNat)
 case atStart=>exact ⟨0,[],V,[],U,rfl,by omega,Lib.hid ⟨rfl,rfl,rfl,rfl⟩,Lib.hid (by simpa using HD.out),Kept.refl _ _⟩
 case round =>
  obtain ⟨k,V1,V2,U1,U2,rfl,hk,HS,HR,hkw⟩:=hrel
  by_cases hlt:k < n
  ·obtain ⟨u,U2',rfl⟩:∃ u U2',U2=u :: U2':=by
    cases U2 with
    | nil=>exfalso;have:=HS.out;have h1:=HN.out;rw[this.1]at h1;simp at h1;omega
    | cons u t=>exact ⟨u,t,rfl⟩
   obtain ⟨v,V2',rfl⟩:∃ v V2',V2=v :: V2':=by
    cases V2 with
    | nil=>exfalso;have:=HS.out;have h1:=HV.out;rw[this.2.1]at h1;simp at h1;omega
    | cons v t=>exact ⟨v,t,rfl⟩
   have HR2:Hid (Dat 95 wr g X ((P++V1)++u :: ((U2'++(M++U1))++v :: (V2'++S)))):=Lib.hid (by simpa using HR.out);obtain ⟨i,hi⟩:∃ i,i=a+k:=⟨_,rfl⟩
   obtain ⟨j,hj⟩:∃ j,j=b+k:=⟨_,rfl⟩
   have HI:Hid (i=(P++V1).length):=Lib.hid (by have:=HS.out;have:=HA.out;simp;omega)
   have HJ:Hid (j=(P++V1).length+1+(U2'++(M++U1)).length):=Lib.hid (by
    have h1:=HS.out;have h2:=HA.out;have h3:=HB.out;have h4:=HN.out;rw[h1.1]at h4;simp at h4 ⊢;omega)
   have hiN:i < N:=by omega
   have hjN:j < N:=by omega
   have hi63:(i:Int) < (N:Int):=by omega
   have hj63:(j:Int) < (N:Int):=by omega
   have hsI:IntKind.i64.wrap ((a:Int)+(k:Int))=(i:Int):=by rw[IntKind.wrap_i64];omega
   have hsJ:IntKind.i64.wrap ((b:Int)+(k:Int))=(j:Int):=by rw[IntKind.wrap_i64];omega
   have hltI:(k:Int) < (n:Int):=by omega
   have HIK:=Lib.hid hi;have HJK:=Lib.hid hj;clear hi hj;have hWD:Dat 95 wr.drew g X ((P++V1)++u :: ((U2'++(M++U1))++v :: (V2'++S))):=HR2.out.kept (S:=No) ((Kept.refl No wr).drew) (fun f=>f);have hKD:Kept (One g) w wr.drew:=hkw.drew
   go_wp2
   refine wp_region_any (by kernel_rfl) ?_
   try (change wpAny _ _ _ _ _ _ _ (World.drew _))
   generalize wr.drew=wD at *;obtain ⟨w1,st1,k1,w2,st2,k2,d2⟩:=hWD.swap1 HI.out HJ.out;have hld_i:=hWD.load HI.out;have hld_j:=(by simpa using hWD:Dat 95 wD g X (((P++V1)++u :: (U2'++(M++U1)))++v :: (V2'++S))).load (i:=j) (by have:=HJ.out;simp at this ⊢;omega);have HST1:=Lib.hid st1;have HST2:=Lib.hid st2;have HLI:=Lib.hid hld_i;have HLJ:=Lib.hid hld_j;have HD2:=Lib.hid d2;clear st1 st2 hld_i hld_j hWD d2;refine wpAny_take (i:=0) (v:=(.slice (some ⟨g,0,none⟩) N c)) rfl (by kernel_rfl) (by kernel_rfl) (by kernel_rfl) (fun _ _ _ h=>h) (Or.inl ⟨by rfl,?hhsw0⟩) ?rrsw0
   case hhsw0=>(intro wz9;go_simp;try with_reducible rfl)
   go_simp
   refine wpAny_take (i:=1) (v:=(.int .i64 (a:Int))) rfl (by kernel_rfl) (by kernel_rfl) (by kernel_rfl) (fun _ _ _ h=>h) (Or.inl ⟨by rfl,?hhsw1⟩) ?rrsw1
   case hhsw1=>(intro wz9;go_simp;try with_reducible rfl)
   go_simp
   refine wpAny_take (i:=2) (v:=(.int .i64 (k:Int))) rfl (by kernel_rfl) (by kernel_rfl) (by kernel_rfl) (fun _ _ _ h=>h) (Or.inl ⟨by rfl,?hhsw2⟩) ?rrsw2
   case hhsw2=>(intro wz9;go_simp;try with_reducible rfl)
   go_simp
   refine wpAny_take (i:=3) (v:=(.int .i64 (i:Int))) rfl (by kernel_rfl) (by kernel_rfl) (by kernel_rfl) (fun _ _ _ h=>h) (Or.inl ⟨by rfl,?hhsw3⟩) ?rrsw3
   case hhsw3=>(intro wz9;go_simp;first|done|(rw[hsI];done)|omega)
   go_simp
   refine wpAny_take (i:=4) (v:=(.slice (some ⟨g,0,none⟩) N c)) rfl (by kernel_rfl) (by kernel_rfl) (by kernel_rfl) (fun _ _ _ h=>h) (Or.inl ⟨by rfl,?hhsw4⟩) ?rrsw4
   case hhsw4=>(intro wz9;go_simp;try with_reducible rfl)
   go_simp
   refine wpAny_take (i:=5) (v:=(.int .i64 (b:Int))) rfl (by kernel_rfl) (by kernel_rfl) (by kernel_rfl) (fun _ _ _ h=>h) (Or.inl ⟨by rfl,?hhsw5⟩) ?rrsw5
   case hhsw5=>(intro wz9;go_simp;try with_reducible rfl)
   go_simp
   refine wpAny_take (i:=6) (v:=(.int .i64 (k:Int))) rfl (by kernel_rfl) (by kernel_rfl) (by kernel_rfl) (fun _ _ _ h=>h) (Or.inl ⟨by rfl,?hhsw6⟩) ?rrsw6
   case hhsw6=>(intro wz9;go_simp;try with_reducible rfl)
   go_simp
   refine wpAny_take (i:=7) (v:=(.int .i64 (j:Int))) rfl (by kernel_rfl) (by kernel_rfl) (by kernel_rfl) (fun _ _ _ h=>h) (Or.inl ⟨by rfl,?hhsw7⟩) ?rrsw7
   case hhsw7=>(intro wz9;go_simp;first|done|(rw[hsJ];done)|omega)
   go_simp
   refine wpAny_take (i:=8) (v:=(.slice (some ⟨g,0,none⟩) N c)) rfl (by kernel_rfl) (by kernel_rfl) (by kernel_rfl) (fun _ _ _ h=>h) (Or.inl ⟨by rfl,?hhsw8⟩) ?rrsw8
   case hhsw8=>(intro wz9;go_simp;try with_reducible rfl)
   go_simp
   refine wpAny_take (i:=9) (v:=(.int .i64 (b:Int))) rfl (by kernel_rfl) (by kernel_rfl) (by kernel_rfl) (fun _ _ _ h=>h) (Or.inl ⟨by rfl,?hhsw9⟩) ?rrsw9
   case hhsw9=>(intro wz9;go_simp;try with_reducible rfl)
   go_simp
   refine wpAny_take (i:=10) (v:=(.int .i64 (k:Int))) rfl (by kernel_rfl) (by kernel_rfl) (by kernel_rfl) (fun _ _ _ h=>h) (Or.inl ⟨by rfl,?hhsw10⟩) ?rrsw10
   case hhsw10=>(intro wz9;go_simp;try with_reducible rfl)
   go_simp
   refine wpAny_take (i:=11) (v:=(.int .i64 (j:Int))) rfl (by kernel_rfl) (by kernel_rfl) (by kernel_rfl) (fun _ _ _ h=>h) (Or.inl ⟨by rfl,?hhsw11⟩) ?rrsw11
   case hhsw11=>(intro wz9;go_simp;first|done|(rw[hsJ];done)|omega)
   go_simp
   refine wpAny_take (i:=12) (v:=(.pointer (some ⟨g,j * 4,none⟩))) rfl (by kernel_rfl) (by kernel_rfl) (by kernel_rfl) (fun _ _ _ h=>h) (Or.inl ⟨by rfl,?hhsw12⟩) ?rrsw12
   case hhsw12=>(intro wz9;go_simp;try with_reducible rfl)
   go_simp
   refine wpAny_take (i:=14) (v:=(.slice (some ⟨g,0,none⟩) N c)) rfl (by kernel_rfl) (by kernel_rfl) (by kernel_rfl) (fun _ _ _ h=>h) (Or.inl ⟨by rfl,?hhsw14⟩) ?rrsw14
   case hhsw14=>(intro wz9;go_simp;try with_reducible rfl)
   go_simp
   refine wpAny_take (i:=15) (v:=(.int .i64 (a:Int))) rfl (by kernel_rfl) (by kernel_rfl) (by kernel_rfl) (fun _ _ _ h=>h) (Or.inl ⟨by rfl,?hhsw15⟩) ?rrsw15
   case hhsw15=>(intro wz9;go_simp;try with_reducible rfl)
   go_simp
   refine wpAny_take (i:=16) (v:=(.int .i64 (k:Int))) rfl (by kernel_rfl) (by kernel_rfl) (by kernel_rfl) (fun _ _ _ h=>h) (Or.inl ⟨by rfl,?hhsw16⟩) ?rrsw16
   case hhsw16=>(intro wz9;go_simp;try with_reducible rfl)
   go_simp
   refine wpAny_take (i:=17) (v:=(.int .i64 (i:Int))) rfl (by kernel_rfl) (by kernel_rfl) (by kernel_rfl) (fun _ _ _ h=>h) (Or.inl ⟨by rfl,?hhsw17⟩) ?rrsw17
   case hhsw17=>(intro wz9;go_simp;first|done|(rw[hsI];done)|omega)
   go_simp
   refine wpAny_take (i:=18) (v:=(.pointer (some ⟨g,i * 4,none⟩))) rfl (by kernel_rfl) (by kernel_rfl) (by kernel_rfl) (fun _ _ _ h=>h) (Or.inl ⟨by rfl,?hhsw18⟩) ?rrsw18
   case hhsw18=>(intro wz9;go_simp;try with_reducible rfl)
   go_simp
   refine wpAny_ready (rs:=[13,19]) (by kernel_rfl) (by simp) ?_;refine AllReady.cons rfl (fun K9 hK9=>?_) (AllReady.cons rfl (fun K9 hK9=>?_) AllReady.nil)
   ·refine (if_pos (show Region.wanted _ _=true from rfl)).mpr ?_
    refine op_loadN 95 (.tmp 28) rfl rfl HLJ.out ?_;refine hK9 _ _ ?_;clear hK9 K9
    go_simp
    refine wpAny_ready (rs:=[19]) (by kernel_rfl) (by simp) ?_;refine AllReady.cons rfl (fun K9 hK9=>?_) AllReady.nil;refine (if_pos (show Region.wanted _ _=true from rfl)).mpr ?_;refine op_loadN 95 (.tmp 34) rfl rfl HLI.out ?_;refine hK9 _ _ ?_;clear hK9 K9
    go_simp
    refine wpAny_take (i:=20) (v:=(.pointer (some ⟨g,i * 4,none⟩))) rfl (by kernel_rfl) (by kernel_rfl) (by kernel_rfl) (fun _ _ _ h=>h) (Or.inl ⟨by rfl,?hhswp20⟩) ?rrswp20
    case hhswp20=>(intro wz9;go_simp;try with_reducible rfl)
    go_simp
    refine wpAny_ready (rs:=[21]) (by kernel_rfl) (by simp) ?_;refine AllReady.cons rfl (fun K9 hK9=>?_) AllReady.nil;refine (if_pos (show Region.wanted _ _=true from rfl)).mpr ?_;refine op_storeS 95 (.tmp 36) (.tmp 29) rfl rfl rfl HST1.out ?_;refine hK9 _ _ ?_;clear hK9 K9
    go_simp
    refine wpAny_take (i:=22) (v:=(.pointer (some ⟨g,j * 4,none⟩))) rfl (by kernel_rfl) (by kernel_rfl) (by kernel_rfl) (fun _ _ _ h=>h) (Or.inl ⟨by rfl,?hhswp22⟩) ?rrswp22
    case hhswp22=>(intro wz9;go_simp;try with_reducible rfl)
    go_simp
    refine wpAny_ready (rs:=[23]) (by kernel_rfl) (by simp) ?_;refine AllReady.cons rfl (fun K9 hK9=>?_) AllReady.nil;refine (if_pos (show Region.wanted _ _=true from rfl)).mpr ?_;refine op_storeS 95 (.tmp 37) (.tmp 35) rfl rfl rfl HST2.out ?_;refine hK9 _ _ ?_;clear hK9 K9
    go_simp
    refine wpAny_done (by kernel_rfl) ?_ _
    go_wp2
    go_roundw
    case rel=>exact ⟨k+1,V1++[v],V2',U1++[u],U2',by go_num,by omega,Lib.hid (by have:=HS.out;simp;exact ⟨this.1,this.2.1,by omega,by omega⟩),Lib.hid (by simpa using HD2.out),(hKD.trans k1).trans k2⟩
    case measure=>simp[intOf];omega
   ·refine (if_pos (show Region.wanted _ _=true from rfl)).mpr ?_
    refine op_loadN 95 (.tmp 34) rfl rfl HLI.out ?_;refine hK9 _ _ ?_;clear hK9 K9
    go_simp
    refine wpAny_ready (rs:=[13]) (by kernel_rfl) (by simp) ?_;refine AllReady.cons rfl (fun K9 hK9=>?_) AllReady.nil;refine (if_pos (show Region.wanted _ _=true from rfl)).mpr ?_;refine op_loadN 95 (.tmp 28) rfl rfl HLJ.out ?_;refine hK9 _ _ ?_;clear hK9 K9
    go_simp
    refine wpAny_take (i:=20) (v:=(.pointer (some ⟨g,i * 4,none⟩))) rfl (by kernel_rfl) (by kernel_rfl) (by kernel_rfl) (fun _ _ _ h=>h) (Or.inl ⟨by rfl,?hhswq20⟩) ?rrswq20
    case hhswq20=>(intro wz9;go_simp;try with_reducible rfl)
    go_simp
    refine wpAny_ready (rs:=[21]) (by kernel_rfl) (by simp) ?_;refine AllReady.cons rfl (fun K9 hK9=>?_) AllReady.nil;refine (if_pos (show Region.wanted _ _=true from rfl)).mpr ?_;refine op_storeS 95 (.tmp 36) (.tmp 29) rfl rfl rfl HST1.out ?_;refine hK9 _ _ ?_;clear hK9 K9
    go_simp
    refine wpAny_take (i:=22) (v:=(.pointer (some ⟨g,j * 4,none⟩))) rfl (by kernel_rfl) (by kernel_rfl) (by kernel_rfl) (fun _ _ _ h=>h) (Or.inl ⟨by rfl,?hhswq22⟩) ?rrswq22
    case hhswq22=>(intro wz9;go_simp;try with_reducible rfl)
    go_simp
    refine wpAny_ready (rs:=[23]) (by kernel_rfl) (by simp) ?_;refine AllReady.cons rfl (fun K9 hK9=>?_) AllReady.nil;refine (if_pos (show Region.wanted _ _=true from rfl)).mpr ?_;refine op_storeS 95 (.tmp 37) (.tmp 35) rfl rfl rfl HST2.out ?_;refine hK9 _ _ ?_;clear hK9 K9
    go_simp
    refine wpAny_done (by kernel_rfl) ?_ _
    go_wp2
    go_roundw
    case rel=>exact ⟨k+1,V1++[v],V2',U1++[u],U2',by go_num,by omega,Lib.hid (by have:=HS.out;simp;exact ⟨this.1,this.2.1,by omega,by omega⟩),Lib.hid (by simpa using HD2.out),(hKD.trans k1).trans k2⟩
    case measure=>simp[intOf];omega
  ·have hke:k=n:=by omega
   go_wp2
   first|go_end0|go_ret
   refine ⟨rfl,?_,hkw⟩;have h1:=HS.out;have h2:=HN.out;have h3:=HV.out;have e1:U2=[]:=List.length_eq_zero_iff.1 (by rw[h1.1]at h2;simp at h2;omega);have e2:V2=[]:=List.length_eq_zero_iff.1 (by rw[h1.2.1]at h3;simp at h3;omega);subst e1 e2;have hR:=HR.out;rw[h1.1,h1.2.1];simpa using hR
theorem split_at {L:List Pr} {k:Nat} (h:k≤L.length):∃ L1 L2,L=L1++L2∧L1.length=k∧L2.length=L.length - k :=
 ⟨L.take k,L.drop k,(List.take_append_drop k L).symm,by rw[List.length_take];omega,by simp⟩
set_option maxHeartbeats 4000000 in
theorem rotate_any (g c:Nat) (X:List Value) (f:Value) (P U V S:List Pr) (N a m b:Nat) (hN:N=(P++(U++(V++S))).length) (hU:0 < U.length) (hV:0 < V.length) (ha:a=P.length) (hm:m=P.length+U.length) (hb:b=P.length+U.length+V.length) (hNb:N≤100000)
  (w:World) (hd:Dat 95 w g X (P++(U++(V++S)))) :
  Calls Tryz.prog 198 #[.slice (some ⟨g,0,none⟩) N c,.int .i64 a,.int .i64 m,.int .i64 b,f] w (Turns 95 g X (P++(V++(U++S))) w):=by
 have CS:Hid (∀ (P U M V S:List Pr) (n a b:Nat) (wx:World) (hN:N=(P++(U++(M++(V++S)))).length) (hn:U.length=n) (hv:V.length=n) (ha:a=P.length) (hb:b=P.length+n+M.length) (hd:Dat 95 wx g X (P++(U++(M++(V++S))))),Calls Tryz.prog 199 #[.slice (some ⟨g,0,none⟩) N c,.int .i64 a,.int .i64 b,.int .i64 n,f] wx (Turns 95 g X (P++(V++(M++(U++S)))) wx)) :=
  Lib.hid (fun P U M V S n a b wx hN hn hv ha hb hd=>swaprange_any g c X f P U M V S N n a b hN hn hv ha hb hNb wx hd)
 obtain ⟨T,hT⟩:∃ T,T=P++(V++(U++S)):=⟨_,rfl⟩
 rw[← hT];have HTT:=Lib.hid hT;have HN:=Lib.hid hN;have hNl:P.length+U.length+V.length+S.length=N:=by subst hN;simp;omega
 have HTL:Hid (T.length=N):=Lib.hid (by rw[hT];simp;omega);obtain ⟨i0,hi0⟩:∃ i,i=U.length:=⟨_,rfl⟩
 obtain ⟨j0,hj0⟩:∃ j,j=V.length:=⟨_,rfl⟩
 have e1:wrap64 ((m:Int) - (a:Int))=(i0:Int):=by unfold wrap64;omega
 have e2:wrap64 ((b:Int) - (m:Int))=(j0:Int):=by unfold wrap64;omega
 have e3:(m:Int) - (a:Int)=(i0:Int):=by omega
 have e4:(b:Int) - (m:Int)=(j0:Int):=by omega
 have HD:=Lib.hid hd;have HM:=Lib.hid hm;have HI0:=Lib.hid hi0;have HJ0:=Lib.hid hj0;have hmN:m≤N:=by omega
 have hi00:0 < i0:=by omega
 have hj00:0 < j0:=by omega
 have hmj0:m+j0≤N:=by omega
 have hmi0:i0≤m:=by omega
 clear hd hm hi0 hj0 hN hT hU hV ha hb hNl
 go_enter Tryz.func198,Tryz.ntmps198
 go_wp2
 go_loopw [10,11] (fun x y wr=>∃ (i j:Nat) (P' U' V' S':List Pr),x=.int .i64 i∧y=.int .i64 j∧0 < i∧0 < j∧i≤m∧m+j≤N∧Hid (U'.length=i∧V'.length=j∧P'.length+i=m∧P'++(V'++(U'++S'))=T)∧Hid (Dat 95 wr g X (P'++(U'++(V'++S'))))∧Kept (One g) w wr) (fun x y _=>(intOf x).toNat+(intOf y).toNat)
 case atStart=>exact ⟨i0,j0,P,U,V,S,rfl,rfl,hi00,hj00,hmi0,hmj0,Lib.hid ⟨HI0.out.symm,HJ0.out.symm,by have:=HM.out;have:=HI0.out;omega,HTT.out.symm⟩,HD,Kept.refl _ _⟩
 case round =>
  clear e1 e2 e3 e4;obtain ⟨i,j,P',U',V',S',rfl,rfl,hi,hj,him,hmj,HS,HR,hkw⟩:=hrel;obtain ⟨pl,hpl⟩:∃ pl,pl=P'.length:=⟨_,rfl⟩
  have HLN:Hid (N=P'.length+i+j+S'.length):=Lib.hid (by have h1:=HTL.out;have h2:=HS.out;rw[← h2.2.2.2]at h1;simp at h1;omega);have e5:(m:Int) - (i:Int)=(pl:Int):=by have:=HS.out;omega
  have e6:wrap64 ((m:Int) - (i:Int))=(pl:Int):=by rw[e5];unfold wrap64;omega
  have e7:IntKind.i64.wrap ((m:Int) - (i:Int))=(pl:Int):=by rw[e5,IntKind.wrap_i64];omega
  have HPL:=Lib.hid hpl;clear hpl
  by_cases hij:i=j
  ·subst hij
   go_wp2_with (go_at_call 199;refine (CS.out P' U' [] V' S' i pl m _ (by have:=HLN.out;have:=HS.out;simp;omega) HS.out.1 HS.out.2.1 HPL.out (by have:=HS.out;simp;omega) (by simpa using HR.out)).mono ?_;rintro e w2 ⟨rfl,hd2,hk2⟩)
   first|go_end0|go_ret
   exact ⟨rfl,by have:=HS.out.2.2.2;rw[← this];simpa using hd2,hkw.trans hk2⟩
  ·by_cases hgt:j < i
   ·have hgtI:(j:Int) < (i:Int):=by omega
    have hneI:((i:Int) != (j:Int))=true:=by simp;omega
    obtain ⟨d,hd⟩:∃ d,d=i - j:=⟨_,rfl⟩
    have e8:(i:Int) - (j:Int)=(d:Int):=by omega
    have e9:wrap64 ((i:Int) - (j:Int))=(d:Int):=by rw[e8];unfold wrap64;omega
    have hd0:0 < d:=by omega
    have hdm:d≤m:=by omega
    have HDD:Hid (d+j=i):=Lib.hid (by omega);obtain ⟨U1,U2,hU12,hl1,hl2⟩:=split_at (L:=U') (k:=j) (by have:=HS.out;omega);have HU:Hid (U'=U1++U2∧U1.length=j∧U2.length=d):=Lib.hid ⟨hU12,hl1,by have:=HS.out;omega⟩;clear hU12 hl1 hl2 hd hij
    go_wp2_with (go_at_call 199;refine (CS.out P' U1 U2 V' S' j pl m _ (by have:=HLN.out;have:=HS.out;have:=HU.out;simp;omega) HU.out.2.1 HS.out.2.1 HPL.out (by have:=HS.out;have:=HU.out;omega) (by have:=HR.out;rw[HU.out.1]at this;simpa using this)).mono ?_;rintro e w2 ⟨rfl,hd2,hk2⟩)
    go_roundw
    case rel=>exact ⟨d,j,P'++V',U2,U1,S',rfl,rfl,hd0,hj,hdm,hmj,Lib.hid ⟨HU.out.2.2,HU.out.2.1,by have:=HS.out;have:=HDD.out;simp;omega,by have:=HS.out.2.2.2;rw[← this,HU.out.1];simp⟩,Lib.hid (by simpa using hd2),hkw.trans hk2⟩
    case measure=>simp[intOf];have:=HDD.out;omega
   ·have hgtI:¬ (j:Int) < (i:Int):=by omega
    have hneI:((i:Int) != (j:Int))=true:=by simp;omega
    obtain ⟨d,hd⟩:∃ d,d=j - i:=⟨_,rfl⟩
    have e8:(j:Int) - (i:Int)=(d:Int):=by omega
    have e9:wrap64 ((j:Int) - (i:Int))=(d:Int):=by rw[e8];unfold wrap64;omega
    obtain ⟨q,hq⟩:∃ q,q=m+d:=⟨_,rfl⟩
    have e10:(m:Int)+(j:Int) - (i:Int)=(q:Int):=by omega
    have e11:wrap64 ((m:Int)+(j:Int) - (i:Int))=(q:Int):=by rw[e10];unfold wrap64;omega
    have hmjb:(m:Int)+(j:Int)≤100000:=by omega
    have hd0:0 < d:=by omega
    have hdm:m+d≤N:=by omega
    have HDD:Hid (d+i=j∧q=m+d):=Lib.hid (by omega);obtain ⟨V1,V2,hV12,hl1,hl2⟩:=split_at (L:=V') (k:=d) (by have:=HS.out;omega);have HV:Hid (V'=V1++V2∧V1.length=d∧V2.length=i):=Lib.hid ⟨hV12,hl1,by have:=HS.out;omega⟩;clear hV12 hl1 hl2 hd hij hq
    go_wp2_with (go_at_call 199;refine (CS.out P' U' V1 V2 S' i pl q _ (by have:=HLN.out;have:=HS.out;have:=HV.out;have:=HDD.out;simp;omega) HS.out.1 HV.out.2.2 HPL.out (by have:=HS.out;have:=HV.out;have:=HDD.out;omega) (by have:=HR.out;rw[HV.out.1]at this;simpa using this)).mono ?_;rintro e w2 ⟨rfl,hd2,hk2⟩)
    go_roundw
    case rel=>exact ⟨i,d,P',V2,V1,U'++S',rfl,rfl,hi,hd0,him,hdm,Lib.hid ⟨HV.out.2.2,HV.out.2.1,HS.out.2.2.1,by have:=HS.out.2.2.2;rw[← this,HV.out.1];simp⟩,Lib.hid (by simpa using hd2),hkw.trans hk2⟩
    case measure=>simp[intOf];have:=HDD.out;omega
theorem ins_more {M1 N1 N2:List Pr} {x:Pr} (h:sortL M1=N1++N2) (h1:N1=[]∨∃ N1' y,N1=N1'++[y]∧¬ x.id < y.id) (h2:∀ y∈N2,x.id < y.id):sortL (M1++[x])=N1++x :: N2:=by
 have hs:Srt (N1++N2):=by rw[← h];exact sortL_srt M1
 have e:sortL (M1++[x])=sortL ((N1++N2)++[x]):=sortL_congr ((by rw[← h];exact sortL_ste M1:Ste M1 (N1++N2)).append (Ste.refl [x]));rw[e];refine sortL_back hs (fun z hz=>?_) h2;rcases h1 with rfl|⟨N1',y,rfl,hy⟩
 ·simp at hz
 ·rcases List.mem_append.1 hz with hz|hz
  ·have:=hs.left.cross z hz y (by simp)
   omega
  ·rw[List.mem_singleton.1 hz];omega
set_option maxHeartbeats 8000000 in
theorem ins_any (g c:Nat) (X:List Value) (P M S:List Pr) (N a b:Nat) (hN:N=P.length+M.length+S.length) (ha:a=P.length) (hb:b=P.length+M.length) (hNb:N≤100000)
  (w:World) (hd:Dat 95 w g X (P++(M++S))) :
  Calls Tryz.prog 195 #[.slice (some ⟨g,0,none⟩) N c,.int .i64 a,.int .i64 b,.func (.func 176) #[] #[]] w (Turns 95 g X (P++(sortL M++S)) w):=by
 have HD:=Lib.hid hd;have haN:b≤N:=by omega
 have hab:a≤b:=by omega
 have HA:=Lib.hid ha;have HB:=Lib.hid hb;have HN:=Lib.hid hN;clear ha hb hN hd;have haI:(a:Int)+1≤100001:=by omega
 go_enter Tryz.func195,Tryz.ntmps195
 go_wp2
 go_loopw [8] (fun vi wr=>∃ (i:Nat) (M1 M2:List Pr),vi=.int .i64 i∧a < i∧i≤b+1∧Hid (M=M1++M2∧(i≤b→i=a+M1.length)∧(b < i→M2=[]∧M1=[]))∧Hid (Dat 95 wr g X (P++(sortL M1++(M2++S))))∧Kept (One g) w wr) (fun i _=>b+1 - (intOf i).toNat)
 case atStart =>
  rcases hM:M with _|⟨x,M'⟩
  ·exact ⟨a+1,[],[],by go_num,by omega,by omega,Lib.hid ⟨rfl,by have:=HA.out;have:=HB.out;subst hM;simp at this;omega,fun _=>⟨rfl,rfl⟩⟩,Lib.hid (by have:=HD.out;subst hM;simpa [sortL] using this),Kept.refl _ _⟩
  ·have hbL:b=P.length+(M'.length+1):=by have:=HB.out;subst hM;simpa using this
   have:=HA.out
   exact ⟨a+1,[x],M',by go_num,by omega,by omega,Lib.hid ⟨rfl,fun _=>rfl,fun h=>by omega⟩,Lib.hid (by have:=HD.out;subst hM;simpa [sortL] using this),Kept.refl _ _⟩
 case round =>
  obtain ⟨i,M1,M2,rfl,hai,hib,HM,HR,hkw⟩:=hrel
  by_cases hlt:i < b
  ·have hltz:(i:Int) < (b:Int):=by omega
   obtain ⟨x,M2',rfl⟩:∃ x M2',M2=x :: M2':=by
    cases M2 with
    | nil=>exfalso;have h1:=HM.out;have h2:=HB.out;have h3:=h1.2.1 (by omega);have h4:=HA.out;rw[h1.1]at h2;simp at h2;omega
    | cons x t=>exact ⟨x,t,rfl⟩
   have HI:Hid (M=M1++x :: M2'∧i=a+M1.length):=Lib.hid ⟨HM.out.1,HM.out.2.1 (by omega)⟩;clear HM
   go_wp2
   go_loopw [9] (fun vj wr=>∃ (j:Nat) (N1 N2:List Pr),vj=.int .i64 j∧a≤j∧j≤i∧Hid (sortL M1=N1++N2∧j=a+N1.length∧∀ y∈N2,x.id < y.id)∧Hid (Dat 95 wr g X (P++(N1++(x :: (N2++(M2'++S))))))∧Kept (One g) w wr) (fun j _=>(intOf j).toNat)
   case atStart=>exact ⟨i,sortL M1,[],rfl,by omega,Nat.le_refl _,Lib.hid ⟨by simp,by rw[sortL_length];exact HI.out.2,by simp⟩,Lib.hid (by simpa using HR.out),hkw⟩
   case round =>
    obtain ⟨j,N1,N2,rfl,haj,hji,HJ,HR2,hkw2⟩:=hrel
    have OUT:Hid ((N1=[]∨∃ N1' y,N1=N1'++[y]∧¬ x.id < y.id)→∀ wx,Dat 95 wx g X (P++(N1++(x :: (N2++(M2'++S)))))→Hid (M=(M1++[x])++M2'∧(i+1≤b→i+1=a+(M1++[x]).length)∧(b < i+1→M2'=[]∧M1++[x]=[]))∧Hid (Dat 95 wx g X (P++(sortL (M1++[x])++(M2'++S))))):=Lib.hid (fun h wx hd=>by
     refine ⟨Lib.hid ⟨by rw[HI.out.1];simp,fun _=>by have:=HI.out.2;simp;omega,fun h=>by omega⟩,Lib.hid ?_⟩;rw[ins_more HJ.out.1 h HJ.out.2.2];simpa using hd)
    by_cases hja:a < j
    ·obtain ⟨jp,rfl⟩:∃ jp,j=jp+1:=⟨j - 1,by omega⟩
     obtain ⟨N1',y,hN1⟩:∃ N1' y,N1=N1'++[y]:=by
      have h0:N1≠[]:=fun h=>by have:=HJ.out.2.1;rw[h]at this;simp at this;omega
      exact ⟨N1.dropLast,N1.getLast h0,(List.dropLast_concat_getLast h0).symm⟩
     have HNN:=Lib.hid hN1;have HP:Hid (jp=(P++N1').length∧jp+1=(P++N1').length+1+([]:List Pr).length):=Lib.hid (by have h1:=HJ.out.2.1;have h2:=HA.out;rw[hN1]at h1;simp at h1 ⊢;omega);have HR3:Hid (Dat 95 wr g X ((P++N1')++y :: ([]++x :: (N2++(M2'++S))))):=Lib.hid (by have:=HR2.out;rw[hN1]at this;simpa using this);have HR4:Hid (∀ wx,Dat 95 wx g X ((P++N1')++y :: ([]++x :: (N2++(M2'++S))))→Dat 95 wx g X (P++(N1++(x :: (N2++(M2'++S)))))):=Lib.hid (fun wx h=>by rw[hN1];simpa using h);clear hN1;have hwp:IntKind.i64.wrap (jp:Int)=(jp:Int):=by rw[IntKind.wrap_i64];omega
     have jz:(jp:Int)+1 < (N:Int):=by omega
     have jz1:(jp:Int) < (N:Int):=by omega
     have jzN:jp+1 < N:=by omega
     have hjaz':(a:Int) < (jp:Int)+1:=by omega
     have p0:(0:Int)≤(jp:Int)+1:=by omega
     have e0:((jp:Int)+1).toNat=jp+1:=by omega
     have hga:g < wr.heap.size:=HR2.out.lt;have hD3:=HR3.out;generalize hLS:(P++N1')++y :: ([]++x :: (N2++(M2'++S)))=LS at *;have HLS:=Lib.hid hLS;have hly:∀ wx,Dat 95 wx g X LS→(Instr.loadAt 95 (.pointer (some ⟨g,jp * 4,none⟩))).run Tryz.prog wx=.ok y.val wx:=fun wx h=>by rw[← hLS]at h;exact h.load HP.out.1
     have hlx:∀ wx,Dat 95 wx g X LS→(Instr.loadAt 95 (.pointer (some ⟨g,(jp+1) * 4,none⟩))).run Tryz.prog wx=.ok x.val wx:=fun wx h=>by
      rw[← hLS]at h;have h2:Dat 95 wx g X (((P++N1')++[y])++x :: (N2++(M2'++S))):=by simpa using h
      exact h2.load (by have:=HP.out.1;simp at this ⊢;omega)
     have HLY:=Lib.hid hly;have HLX:=Lib.hid hlx;clear hLS hly hlx
     by_cases hlv:x.id < y.id
     ·have hcI:(cfP x y) < 0:=cfP_lt.2 hlv
      have hcD:decide (cfP x y < 0)=true:=decide_eq_true hcI;obtain ⟨cv,hcv⟩:∃ cv,cv=cfP x y:=⟨_,rfl⟩
      have HCC:Hid (∀ wx,Calls Tryz.prog 176 #[x.val,y.val] wx fun e w'=>e=.returned (.int .i64 cv)∧Kept No wx w'):=Lib.hid (fun wx=>by rw[hcv];exact cmp_any x y wx);rw[← hcv]at hcI hcD;clear hcv
      go_wp2
      refine wp_region_held_drew (S:=(fun wx=>Dat 95 wx g X LS∧Kept No wr wx)) (by kernel_rfl) ?_ (fun hHeld=>?_)
      ·exact ⟨hD3.kept (S:=No) ((Kept.refl No wr).drew) (fun f=>f),(Kept.refl No wr).drew⟩
      refine wtv (i:=0) (v:=?_) rfl (λwz9 hSw=>?_) ?_;rotate_left;(·(try dsimp only at hSw);go_simp;try with_reducible rfl);go_simp
      refine wtv (i:=1) (v:=?_) rfl (λwz9 hSw=>?_) ?_;rotate_left;(·(try dsimp only at hSw);go_simp;try with_reducible rfl);go_simp
      refine wtv (i:=2) (v:=(.bool true)) rfl (λwz9 hSw=>?_) ?_;(·(try dsimp only at hSw);go_simp;try with_reducible rfl);go_simp
      refine wtv (i:=3) (v:=(.bool true)) rfl (λwz9 hSw=>?_) ?_;(·(try dsimp only at hSw);go_simp;try with_reducible rfl);go_simp
      refine wtv (i:=4) (v:=(.func (.func 176) #[] #[])) rfl (λwz9 hSw=>?_) ?_;(·(try dsimp only at hSw);go_simp;try with_reducible rfl);go_simp
      refine wtv (i:=5) (v:=(.slice (some ⟨g,0,none⟩) N c)) rfl (λwz9 hSw=>?_) ?_;(·(try dsimp only at hSw);go_simp;try with_reducible rfl);go_simp
      refine wtv (i:=6) (v:=?_) rfl (λwz9 hSw=>?_) ?_;rotate_left;(·(try dsimp only at hSw);go_simp;try with_reducible rfl);go_simp
      refine wtv (i:=7) (v:=(.pointer (some ⟨g,(jp+1) * 4,none⟩))) rfl (λwz9 hSw=>?_) ?_;(·(try dsimp only at hSw);go_simp;try with_reducible rfl);go_simp
      refine wtk (i:=8) (v:=x.val) rfl (Or.inl ⟨by rfl,?hhta8⟩) (by assumption) ?rrta8
      case hhta8=>(intro wz9 hSw;exact run_valueS (HLX.out wz9 hSw.1))
      go_simp
      refine wtv (i:=9) (v:=(.slice (some ⟨g,0,none⟩) N c)) rfl (λwz9 hSw=>?_) ?_;(·(try dsimp only at hSw);go_simp;try with_reducible rfl);go_simp
      refine wtv (i:=10) (v:=?_) rfl (λwz9 hSw=>?_) ?_;rotate_left;(·(try dsimp only at hSw);go_simp;try with_reducible rfl);go_simp
      refine wtk (i:=11) (v:=(.int .i64 (jp:Int))) rfl (Or.inl ⟨by rfl,?hhta11⟩) (by assumption) ?rrta11
      case hhta11=>(intro wz9 hSw;clear hSw;go_simp;first|done|rw[hwp]|omega)
      go_simp
      refine wtv (i:=12) (v:=(.pointer (some ⟨g,jp * 4,none⟩))) rfl (λwz9 hSw=>?_) ?_;(·(try dsimp only at hSw);go_simp;try with_reducible rfl);go_simp
      refine wtk (i:=13) (v:=y.val) rfl (Or.inl ⟨by rfl,?hhta13⟩) (by assumption) ?rrta13
      case hhta13=>(intro wz9 hSw;exact run_valueS (HLY.out wz9 hSw.1))
      go_simp
      refine wpAnyH_ready (rs:=[14]) (by kernel_rfl) (by simp) ?_;refine AllReadyH.cons rfl (fun K9 hK9=>?_) AllReadyH.nil
      go_simp
      go_wp2_with (go_at_call 176;refine (HCC.out _).mono ?_;rintro e w3 ⟨rfl,hk3⟩)
      refine hK9.out _ _ ?_ (fun hHeld=>?_)
      ·exact ⟨hHeld.1.kept hk3 (fun f=>f),hHeld.2.trans hk3⟩
      clear hK9 K9;refine wtk (i:=15) (v:=(.bool true)) rfl (Or.inl ⟨by rfl,?hhta15⟩) (by assumption) ?rrta15
      case hhta15=>(intro wz9 hSw;(try dsimp only at hSw);go_simp;try with_reducible rfl)
      go_simp
      refine wtv (i:=16) (v:=(.bool true)) rfl (λwz9 hSw=>?_) ?_;(·(try dsimp only at hSw);go_simp;try with_reducible rfl);go_simp
      refine wpAnyH_done (by kernel_rfl) ?_ _
      go_wp2
      have hD4:=hHeld.1;have hk4:=hkw2.trans hHeld.2.any;clear hHeld;have hWD:Dat 95 w3.drew g X LS:=hD4.kept (S:=No) ((Kept.refl No w3).drew) (fun f=>f);have hKD:Kept (One g) w w3.drew:=hk4.drew;clear hD3 hD4 hk4;refine wp_region_any (by kernel_rfl) ?_
      try (change wpAny _ _ _ _ _ _ _ (World.drew _))
      generalize w3.drew=wD at *;have hWD2:=hWD;rw[← HLS.out]at hWD2;obtain ⟨w1,st1,k1,w2,st2,k2,d2⟩:=hWD2.swap2 HP.out.1 HP.out.2;have HLI:=Lib.hid (HLY.out wD hWD);have HLJ:=Lib.hid (HLX.out wD hWD);have HST1:=Lib.hid st1;have HST2:=Lib.hid st2;have HD2:=Lib.hid d2;clear st1 st2 hWD hWD2 d2;refine wpAny_take (i:=0) (v:=(.slice (some ⟨g,0,none⟩) N c)) rfl (by kernel_rfl) (by kernel_rfl) (by kernel_rfl) (fun _ _ _ h=>h) (Or.inl ⟨by rfl,?hhex0⟩) ?rrex0
      case hhex0=>(intro wz9;go_simp;try with_reducible rfl)
      go_simp
      refine wpAny_take (i:=1) (v:=(.int .i64 ((jp:Int)+1))) rfl (by kernel_rfl) (by kernel_rfl) (by kernel_rfl) (fun _ _ _ h=>h) (Or.inl ⟨by rfl,?hhex1⟩) ?rrex1
      case hhex1=>(intro wz9;go_simp;try with_reducible rfl)
      go_simp
      refine wpAny_take (i:=2) (v:=(.slice (some ⟨g,0,none⟩) N c)) rfl (by kernel_rfl) (by kernel_rfl) (by kernel_rfl) (fun _ _ _ h=>h) (Or.inl ⟨by rfl,?hhex2⟩) ?rrex2
      case hhex2=>(intro wz9;go_simp;try with_reducible rfl)
      go_simp
      refine wpAny_take (i:=3) (v:=(.int .i64 ((jp:Int)+1))) rfl (by kernel_rfl) (by kernel_rfl) (by kernel_rfl) (fun _ _ _ h=>h) (Or.inl ⟨by rfl,?hhex3⟩) ?rrex3
      case hhex3=>(intro wz9;go_simp;try with_reducible rfl)
      go_simp
      refine wpAny_take (i:=4) (v:=(.int .i64 (jp:Int))) rfl (by kernel_rfl) (by kernel_rfl) (by kernel_rfl) (fun _ _ _ h=>h) (Or.inl ⟨by rfl,?hhex4⟩) ?rrex4
      case hhex4=>(intro wz9;go_simp;first|done|rw[hwp]|omega)
      go_simp
      refine wpAny_take (i:=5) (v:=(.slice (some ⟨g,0,none⟩) N c)) rfl (by kernel_rfl) (by kernel_rfl) (by kernel_rfl) (fun _ _ _ h=>h) (Or.inl ⟨by rfl,?hhex5⟩) ?rrex5
      case hhex5=>(intro wz9;go_simp;try with_reducible rfl)
      go_simp
      refine wpAny_take (i:=6) (v:=(.int .i64 ((jp:Int)+1))) rfl (by kernel_rfl) (by kernel_rfl) (by kernel_rfl) (fun _ _ _ h=>h) (Or.inl ⟨by rfl,?hhex6⟩) ?rrex6
      case hhex6=>(intro wz9;go_simp;try with_reducible rfl)
      go_simp
      refine wpAny_take (i:=7) (v:=(.int .i64 (jp:Int))) rfl (by kernel_rfl) (by kernel_rfl) (by kernel_rfl) (fun _ _ _ h=>h) (Or.inl ⟨by rfl,?hhex7⟩) ?rrex7
      case hhex7=>(intro wz9;go_simp;first|done|rw[hwp]|omega)
      go_simp
      refine wpAny_take (i:=8) (v:=(.pointer (some ⟨g,jp * 4,none⟩))) rfl (by kernel_rfl) (by kernel_rfl) (by kernel_rfl) (fun _ _ _ h=>h) (Or.inl ⟨by rfl,?hhex8⟩) ?rrex8
      case hhex8=>(intro wz9;go_simp;try with_reducible rfl)
      go_simp
      refine wpAny_take (i:=10) (v:=(.slice (some ⟨g,0,none⟩) N c)) rfl (by kernel_rfl) (by kernel_rfl) (by kernel_rfl) (fun _ _ _ h=>h) (Or.inl ⟨by rfl,?hhex10⟩) ?rrex10
      case hhex10=>(intro wz9;go_simp;try with_reducible rfl)
      go_simp
      refine wpAny_take (i:=11) (v:=(.int .i64 ((jp:Int)+1))) rfl (by kernel_rfl) (by kernel_rfl) (by kernel_rfl) (fun _ _ _ h=>h) (Or.inl ⟨by rfl,?hhex11⟩) ?rrex11
      case hhex11=>(intro wz9;go_simp;try with_reducible rfl)
      go_simp
      refine wpAny_take (i:=12) (v:=(.pointer (some ⟨g,(jp+1) * 4,none⟩))) rfl (by kernel_rfl) (by kernel_rfl) (by kernel_rfl) (fun _ _ _ h=>h) (Or.inl ⟨by rfl,?hhex12⟩) ?rrex12
      case hhex12=>(intro wz9;go_simp;try with_reducible rfl)
      go_simp
      refine wpAny_ready (rs:=[9,13]) (by kernel_rfl) (by simp) ?_;refine AllReady.cons rfl (fun K9 hK9=>?_) (AllReady.cons rfl (fun K9 hK9=>?_) AllReady.nil)
      ·refine (if_pos (show Region.wanted _ _=true from rfl)).mpr ?_
       refine op_loadN 95 (.tmp 45) rfl rfl HLI.out ?_;refine hK9 _ _ ?_;clear hK9 K9
       go_simp
       refine wpAny_ready (rs:=[13]) (by kernel_rfl) (by simp) ?_;refine AllReady.cons rfl (fun K9 hK9=>?_) AllReady.nil;refine (if_pos (show Region.wanted _ _=true from rfl)).mpr ?_;refine op_loadN 95 (.tmp 49) rfl rfl HLJ.out ?_;refine hK9 _ _ ?_;clear hK9 K9
       go_simp
       refine wpAny_take (i:=14) (v:=(.pointer (some ⟨g,(jp+1) * 4,none⟩))) rfl (by kernel_rfl) (by kernel_rfl) (by kernel_rfl) (fun _ _ _ h=>h) (Or.inl ⟨by rfl,?hhexp14⟩) ?rrexp14
       case hhexp14=>(intro wz9;go_simp;try with_reducible rfl)
       go_simp
       refine wpAny_ready (rs:=[15]) (by kernel_rfl) (by simp) ?_;refine AllReady.cons rfl (fun K9 hK9=>?_) AllReady.nil;refine (if_pos (show Region.wanted _ _=true from rfl)).mpr ?_;refine op_storeS 95 (.tmp 51) (.tmp 46) rfl rfl rfl HST1.out ?_;refine hK9 _ _ ?_;clear hK9 K9
       go_simp
       refine wpAny_take (i:=16) (v:=(.pointer (some ⟨g,jp * 4,none⟩))) rfl (by kernel_rfl) (by kernel_rfl) (by kernel_rfl) (fun _ _ _ h=>h) (Or.inl ⟨by rfl,?hhexp16⟩) ?rrexp16
       case hhexp16=>(intro wz9;go_simp;try with_reducible rfl)
       go_simp
       refine wpAny_ready (rs:=[17]) (by kernel_rfl) (by simp) ?_;refine AllReady.cons rfl (fun K9 hK9=>?_) AllReady.nil;refine (if_pos (show Region.wanted _ _=true from rfl)).mpr ?_;refine op_storeS 95 (.tmp 52) (.tmp 50) rfl rfl rfl HST2.out ?_;refine hK9 _ _ ?_;clear hK9 K9
       go_simp
       refine wpAny_done (by kernel_rfl) ?_ _
       go_wp2
       go_roundw
       case rel=>exact ⟨jp,N1',y :: N2,by first|rfl|go_num,by omega,by omega,Lib.hid (by have h1:=HJ.out;have h2:=HNN.out;exact ⟨by rw[h1.1,h2];simp,by have:=h1.2.1;rw[h2]at this;simp at this;omega,fun z hz=>by rcases List.mem_cons.1 hz with rfl|hz;exact hlv;exact h1.2.2 z hz⟩),Lib.hid (by simpa using HD2.out),(hKD.trans k1).trans k2⟩
       case measure=>simp[intOf]
      ·refine (if_pos (show Region.wanted _ _=true from rfl)).mpr ?_
       refine op_loadN 95 (.tmp 49) rfl rfl HLJ.out ?_;refine hK9 _ _ ?_;clear hK9 K9
       go_simp
       refine wpAny_ready (rs:=[9]) (by kernel_rfl) (by simp) ?_;refine AllReady.cons rfl (fun K9 hK9=>?_) AllReady.nil;refine (if_pos (show Region.wanted _ _=true from rfl)).mpr ?_;refine op_loadN 95 (.tmp 45) rfl rfl HLI.out ?_;refine hK9 _ _ ?_;clear hK9 K9
       go_simp
       refine wpAny_take (i:=14) (v:=(.pointer (some ⟨g,(jp+1) * 4,none⟩))) rfl (by kernel_rfl) (by kernel_rfl) (by kernel_rfl) (fun _ _ _ h=>h) (Or.inl ⟨by rfl,?hhexq14⟩) ?rrexq14
       case hhexq14=>(intro wz9;go_simp;try with_reducible rfl)
       go_simp
       refine wpAny_ready (rs:=[15]) (by kernel_rfl) (by simp) ?_;refine AllReady.cons rfl (fun K9 hK9=>?_) AllReady.nil;refine (if_pos (show Region.wanted _ _=true from rfl)).mpr ?_;refine op_storeS 95 (.tmp 51) (.tmp 46) rfl rfl rfl HST1.out ?_;refine hK9 _ _ ?_;clear hK9 K9
       go_simp
       refine wpAny_take (i:=16) (v:=(.pointer (some ⟨g,jp * 4,none⟩))) rfl (by kernel_rfl) (by kernel_rfl) (by kernel_rfl) (fun _ _ _ h=>h) (Or.inl ⟨by rfl,?hhexq16⟩) ?rrexq16
       case hhexq16=>(intro wz9;go_simp;try with_reducible rfl)
       go_simp
       refine wpAny_ready (rs:=[17]) (by kernel_rfl) (by simp) ?_;refine AllReady.cons rfl (fun K9 hK9=>?_) AllReady.nil;refine (if_pos (show Region.wanted _ _=true from rfl)).mpr ?_;refine op_storeS 95 (.tmp 52) (.tmp 50) rfl rfl rfl HST2.out ?_;refine hK9 _ _ ?_;clear hK9 K9
       go_simp
       refine wpAny_done (by kernel_rfl) ?_ _
       go_wp2
       go_roundw
       case rel=>exact ⟨jp,N1',y :: N2,by first|rfl|go_num,by omega,by omega,Lib.hid (by have h1:=HJ.out;have h2:=HNN.out;exact ⟨by rw[h1.1,h2];simp,by have:=h1.2.1;rw[h2]at this;simp at this;omega,fun z hz=>by rcases List.mem_cons.1 hz with rfl|hz;exact hlv;exact h1.2.2 z hz⟩),Lib.hid (by simpa using HD2.out),(hKD.trans k1).trans k2⟩
       case measure=>simp[intOf]
     ·have hcI:¬ (cfP x y) < 0:=fun h=>hlv (cfP_lt.1 h)
      have hcD:decide (cfP x y < 0)=false:=decide_eq_false hcI;obtain ⟨cv,hcv⟩:∃ cv,cv=cfP x y:=⟨_,rfl⟩
      have HCC:Hid (∀ wx,Calls Tryz.prog 176 #[x.val,y.val] wx fun e w'=>e=.returned (.int .i64 cv)∧Kept No wx w'):=Lib.hid (fun wx=>by rw[hcv];exact cmp_any x y wx);rw[← hcv]at hcI hcD;clear hcv
      go_wp2
      refine wp_region_held_drew (S:=(fun wx=>Dat 95 wx g X LS∧Kept No wr wx)) (by kernel_rfl) ?_ (fun hHeld=>?_)
      ·exact ⟨hD3.kept (S:=No) ((Kept.refl No wr).drew) (fun f=>f),(Kept.refl No wr).drew⟩
      refine wtv (i:=0) (v:=?_) rfl (λwz9 hSw=>?_) ?_;rotate_left;(·(try dsimp only at hSw);go_simp;try with_reducible rfl);go_simp
      refine wtv (i:=1) (v:=?_) rfl (λwz9 hSw=>?_) ?_;rotate_left;(·(try dsimp only at hSw);go_simp;try with_reducible rfl);go_simp
      refine wtv (i:=2) (v:=(.bool true)) rfl (λwz9 hSw=>?_) ?_;(·(try dsimp only at hSw);go_simp;try with_reducible rfl);go_simp
      refine wtv (i:=3) (v:=(.bool true)) rfl (λwz9 hSw=>?_) ?_;(·(try dsimp only at hSw);go_simp;try with_reducible rfl);go_simp
      refine wtv (i:=4) (v:=(.func (.func 176) #[] #[])) rfl (λwz9 hSw=>?_) ?_;(·(try dsimp only at hSw);go_simp;try with_reducible rfl);go_simp
      refine wtv (i:=5) (v:=(.slice (some ⟨g,0,none⟩) N c)) rfl (λwz9 hSw=>?_) ?_;(·(try dsimp only at hSw);go_simp;try with_reducible rfl);go_simp
      refine wtv (i:=6) (v:=?_) rfl (λwz9 hSw=>?_) ?_;rotate_left;(·(try dsimp only at hSw);go_simp;try with_reducible rfl);go_simp
      refine wtv (i:=7) (v:=(.pointer (some ⟨g,(jp+1) * 4,none⟩))) rfl (λwz9 hSw=>?_) ?_;(·(try dsimp only at hSw);go_simp;try with_reducible rfl);go_simp
      refine wtk (i:=8) (v:=x.val) rfl (Or.inl ⟨by rfl,?hhtb8⟩) (by assumption) ?rrtb8
      case hhtb8=>(intro wz9 hSw;exact run_valueS (HLX.out wz9 hSw.1))
      go_simp
      refine wtv (i:=9) (v:=(.slice (some ⟨g,0,none⟩) N c)) rfl (λwz9 hSw=>?_) ?_;(·(try dsimp only at hSw);go_simp;try with_reducible rfl);go_simp
      refine wtv (i:=10) (v:=?_) rfl (λwz9 hSw=>?_) ?_;rotate_left;(·(try dsimp only at hSw);go_simp;try with_reducible rfl);go_simp
      refine wtk (i:=11) (v:=(.int .i64 (jp:Int))) rfl (Or.inl ⟨by rfl,?hhtb11⟩) (by assumption) ?rrtb11
      case hhtb11=>(intro wz9 hSw;clear hSw;go_simp;first|done|rw[hwp]|omega)
      go_simp
      refine wtv (i:=12) (v:=(.pointer (some ⟨g,jp * 4,none⟩))) rfl (λwz9 hSw=>?_) ?_;(·(try dsimp only at hSw);go_simp;try with_reducible rfl);go_simp
      refine wtk (i:=13) (v:=y.val) rfl (Or.inl ⟨by rfl,?hhtb13⟩) (by assumption) ?rrtb13
      case hhtb13=>(intro wz9 hSw;exact run_valueS (HLY.out wz9 hSw.1))
      go_simp
      refine wpAnyH_ready (rs:=[14]) (by kernel_rfl) (by simp) ?_;refine AllReadyH.cons rfl (fun K9 hK9=>?_) AllReadyH.nil
      go_simp
      go_wp2_with (go_at_call 176;refine (HCC.out _).mono ?_;rintro e w3 ⟨rfl,hk3⟩)
      refine hK9.out _ _ ?_ (fun hHeld=>?_)
      ·exact ⟨hHeld.1.kept hk3 (fun f=>f),hHeld.2.trans hk3⟩
      clear hK9 K9;refine wtk (i:=15) (v:=(.bool false)) rfl (Or.inl ⟨by rfl,?hhtb15⟩) (by assumption) ?rrtb15
      case hhtb15=>(intro wz9 hSw;(try dsimp only at hSw);go_simp;try with_reducible rfl)
      go_simp
      refine wtv (i:=16) (v:=(.bool false)) rfl (λwz9 hSw=>?_) ?_;(·(try dsimp only at hSw);go_simp;try with_reducible rfl);go_simp
      refine wpAnyH_done (by kernel_rfl) ?_ _
      go_wp2
      have HOO:=OUT.out (.inr ⟨N1',y,HNN.out,hlv⟩) w3 (HR4.out w3 hHeld.1)
      go_roundw
      case rel=>exact ⟨i+1,M1++[x],M2',by go_num,by omega,by omega,HOO.1,HOO.2,hkw2.trans hHeld.2.any⟩
      case measure=>simp[intOf];omega
    ·have hjaz:decide ((j:Int) > (a:Int))=false:=decide_eq_false (by omega)
     have hjaz':¬ (a:Int) < (j:Int):=by omega
     have hjzd:decide ((a:Int) < (j:Int))=false:=decide_eq_false (by omega);have h0:N1=[]:=List.length_eq_zero_iff.1 (by have:=HJ.out.2.1;omega);have HOO:=OUT.out (.inl h0) wr.drew (HR2.out.kept (S:=No) ((Kept.refl No wr).drew) (fun f=>f));have HN0:=Lib.hid h0;clear h0
     go_wp2
     refine wp_region_held_drew (S:=(fun _=>True)) (by kernel_rfl) ?_ (fun hHeld=>?_)
     ·exact trivial
     refine wtv (i:=0) (v:=?_) rfl (λwz9 hSw=>?_) ?_;rotate_left;(·(try dsimp only at hSw);go_simp;try with_reducible rfl);go_simp
     refine wtv (i:=1) (v:=?_) rfl (λwz9 hSw=>?_) ?_;rotate_left;(·(try dsimp only at hSw);go_simp;try with_reducible rfl);go_simp
     refine wtv (i:=2) (v:=(.bool false)) rfl (λwz9 hSw=>?_) ?_;(·(try dsimp only at hSw);go_simp;try with_reducible rfl);go_simp
     refine wtv (i:=3) (v:=(.bool false)) rfl (λwz9 hSw=>?_) ?_;(·(try dsimp only at hSw);go_simp;try with_reducible rfl);go_simp
     refine wtu (i:=4) rfl ?_;go_simp
     refine wtu (i:=5) rfl ?_;go_simp
     refine wtu (i:=6) rfl ?_;go_simp
     refine wtu (i:=7) rfl ?_;go_simp
     refine wtu (i:=8) rfl ?_;go_simp
     refine wtu (i:=9) rfl ?_;go_simp
     refine wtu (i:=10) rfl ?_;go_simp
     refine wtu (i:=11) rfl ?_;go_simp
     refine wtu (i:=12) rfl ?_;go_simp
     refine wtu (i:=13) rfl ?_;go_simp
     refine wtu (i:=14) rfl ?_;go_simp
     refine wtu (i:=15) rfl ?_;go_simp
     refine wtv (i:=16) (v:=(.bool false)) rfl (λwz9 hSw=>?_) ?_;(·(try dsimp only at hSw);go_simp;try with_reducible rfl);go_simp
     refine wpAnyH_done (by kernel_rfl) ?_ _
     go_wp2
     go_roundw
     case rel=>exact ⟨i+1,M1++[x],M2',by go_num,by omega,by omega,HOO.1,HOO.2,hkw2.drew⟩
     case measure=>simp[intOf];omega
  ·have hltz:¬ (i:Int) < (b:Int):=by omega
   go_wp2
   first|go_end0|go_ret
   refine ⟨rfl,?_,hkw⟩;have h1:=HM.out;have h2:=HA.out;have h3:=HB.out;have hR:=HR.out
   by_cases hbi:b < i
   ·obtain ⟨rfl,rfl⟩:=h1.2.2 hbi
    rw[h1.1];simpa using hR
   ·have h4:=h1.2.1 (by omega)
    have e2:M2=[]:=List.length_eq_zero_iff.1 (by rw[h1.1]at h3;simp at h3;omega);subst e2;rw[h1.1];simpa using hR
end Go.Proofs.YtofjhopecfmbcaaGreatDoor
