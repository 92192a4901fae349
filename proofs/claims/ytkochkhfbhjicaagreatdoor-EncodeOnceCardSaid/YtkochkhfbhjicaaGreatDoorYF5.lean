import Derived.Test.YtkochkhfbhjicaaGreatDoorYF3
import Derived.Laws.Tables
import Derived.Laws.IdiomCopy
import Derived.Deep.RegionHeld3
namespace Go.Proofs.YtkochkhfbhjicaaGreatDoor
open Go.RowKit
set_option linter.unusedVariables false
set_option linter.unusedSimpArgs false
instance:Inhabited Pr:=⟨Pr.zero⟩
def jX (L:List Pr):List Pr:=L.mergeSort (λp q=>decide (p.id≤q.id))
def Srt (L:List Pr):Prop:=L.Pairwise λp q=>p.id≤q.id
def idf (i:Nat) (L:List Pr):List Pr:=L.filter λp=>decide (p.id=i)
def Ste (L M:List Pr):Prop:=∀ i,idf i L=idf i M
theorem Ste.refl (L:List Pr):Ste L L:=λ_=>rfl
theorem Ste.symm {L M:List Pr} (h:Ste L M):Ste M L:=λi=>(h i).symm
theorem Ste.trans {L M N:List Pr} (h:Ste L M) (k:Ste M N):Ste L N:=λi=>(h i).trans (k i)
theorem vw (i:Nat) (L M:List Pr):idf i (L++M)=idf i L++idf i M:=by simp[idf]
theorem Ste.append {L L' M M':List Pr} (h:Ste L L') (k:Ste M M'):Ste (L++M) (L'++M'):=λi=>by rw[vw,vw,h i,k i]
theorem vU {i:Nat} {p:Pr} {L:List Pr} (h:p.id=i):idf i (p :: L)=p :: idf i L:=by simp[idf,h]
theorem j0t {i:Nat} {p:Pr} {L:List Pr} (h:p.id≠i):idf i (p :: L)=idf i L:=by simp[idf,h]
theorem j4r {i:Nat} {L:List Pr} (h:∀ x∈L,x.id≠i):idf i L=[]:=by
 unfold idf;rw[List.filter_eq_nil_iff];intro x hx;simpa using h x hx
theorem jAw:∀ {L M:List Pr},Srt L→Srt M→Ste L M→L=M
 | [],[],_,_,_=>rfl
 | [],q :: M,_,_,h=>by have:=h q.id;rw[vU rfl]at this;cases this
 | p :: L,[],_,_,h=>by have:=h p.id;rw[vU rfl]at this;cases this
 | p :: L,q :: M,hL,hM,h=>by
  have a:=List.pairwise_cons.1 hL;have b:=List.pairwise_cons.1 hM
  have hpq:p.id=q.id:=by
   rcases Nat.lt_trichotomy p.id q.id with hlt|he|hlt
   ·have h1:=h p.id
    rw[vU rfl,j4r (L:=q :: M)]at h1
    ·cases h1
    ·intro x hx
     rcases List.mem_cons.1 hx with rfl|hx
     ·omega
     ·have:=b.1 x hx;omega
   ·exact he
   ·have h1:=h q.id
    rw[vU (p:=q) rfl,j4r (L:=p :: L)]at h1
    ·cases h1
    ·intro x hx
     rcases List.mem_cons.1 hx with rfl|hx
     ·omega
     ·have:=a.1 x hx;omega
  have h1:=h p.id;rw[vU rfl,vU hpq.symm]at h1;injection h1 with e1 e2;subst e1;rw[jAw a.2 b.2 λi=>?_];have h3:=h i
  by_cases hi:p.id=i
  ·rw[vU hi,vU hi]at h3
   injection h3
  ·rwa [j0t hi,j0t hi]at h3
theorem xV (L:List Pr):Srt (jX L):=by
 have h:=List.pairwise_mergeSort (le:=λp q:Pr=>decide (p.id≤q.id)) (by intro a b c;simp;omega) (by intro a b;simp;omega) L;exact h.imp λh=>by simpa using h
theorem j2c (L:List Pr):(jX L).Perm L:=List.mergeSort_perm _ _
theorem je (L:List Pr):(jX L).length=L.length:=(j2c L).length_eq
theorem zi {L:List Pr} {x:Pr}:x∈jX L↔x∈L:=(j2c L).mem_iff
theorem xW (L:List Pr):Ste L (jX L):=λi=>by
 have h1:(idf i L).Pairwise (λp q:Pr=>decide (p.id≤q.id)=true):=by
  rw[List.pairwise_iff_forall_sublist];intro a b hs;have ha:a∈idf i L:=hs.subset (by simp);have hb:b∈idf i L:=hs.subset (by simp);have ha2:a.id=i:=by simpa using (List.mem_filter.1 ha).2
  have hb2:b.id=i:=by simpa using (List.mem_filter.1 hb).2
  simp;omega
 have h2:(idf i L).Sublist (jX L):=List.sublist_mergeSort (le:=λp q:Pr=>decide (p.id≤q.id)) (by intro a b c;simp;omega) (by intro a b;simp;omega) h1 List.filter_sublist;have h3:(idf i (idf i L)).Sublist (idf i (jX L)):=h2.filter _;have h4:idf i (idf i L)=idf i L:=by unfold idf;rw[List.filter_filter];simp
 rw[h4]at h3;exact h3.eq_of_length ((j2c L).filter _).length_eq.symm
theorem j35 {L M:List Pr} (h:Srt M) (k:Ste L M):jX L=M:=jAw (xV L) h ((xW L).symm.trans k)
theorem jAt {L:List Pr} (h:Srt L):jX L=L:=j35 h (Ste.refl L)
theorem jAs {L M:List Pr} (h:Ste L M):jX L=jX M:=j35 (xV M) (h.trans (xW M))
theorem Srt.append {L M:List Pr} (h:Srt L) (k:Srt M) (c:∀ x∈L,∀ y∈M,x.id≤y.id):Srt (L++M):=List.pairwise_append.2 ⟨h,k,c⟩
theorem Srt.left {L M:List Pr} (h:Srt (L++M)):Srt L:=(List.pairwise_append.1 h).1
theorem Srt.right {L M:List Pr} (h:Srt (L++M)):Srt M:=(List.pairwise_append.1 h).2.1
theorem Srt.cross {L M:List Pr} (h:Srt (L++M)):∀ x∈L,∀ y∈M,x.id≤y.id:=(List.pairwise_append.1 h).2.2
theorem Srt.one (p:Pr):Srt [p]:=List.pairwise_singleton _ _
theorem Srt.nil:Srt []:=List.Pairwise.nil
theorem j48 {U1 U2 V1 V2:List Pr} (hU:Srt (U1++U2)) (hV:Srt (V1++V2)) (h1:∀ x∈U1,∀ y∈V2,x.id≤y.id) (h2:∀ y∈V1,∀ x∈U2,y.id<x.id) :
  jX ((U1++U2)++(V1++V2))=jX (U1++V1)++jX (U2++V2):=by
 refine j35 ((xV _).append (xV _) λx hx y hy=>?_) ?_
 ·rw[zi,List.mem_append]at hx hy
  rcases hx with hx|hx<;>rcases hy with hy|hy
  ·exact hU.cross x hx y hy
  ·exact h1 x hx y hy
  ·exact Nat.le_of_lt (h2 x hx y hy)
  ·exact hV.cross x hx y hy
 ·have e:Ste ((U1++U2)++(V1++V2)) ((U1++V1)++(U2++V2)):=λi=>by
   simp only[vw,List.append_assoc]
   congr 1
   rw[← List.append_assoc,← List.append_assoc]
   congr 1
   by_cases hv:∃ y∈V1,y.id=i
   ·obtain ⟨y,hy,rfl⟩:=hv
    rw[j4r (L:=U2) λx hx=>by have:=h2 y hy x hx;omega];simp
   ·rw[j4r (L:=V1) λx hx he=>hv ⟨x,hx,he⟩]
    simp
  exact e.trans ((xW _).append (xW _))
theorem jC6 {y:Pr} {U1 U2:List Pr} (hU:Srt (U1++U2)) (h1:∀ x∈U1,x.id≤y.id) (h2:∀ x∈U2,y.id<x.id):jX ((U1++U2)++[y])=U1++y :: U2:=by
 have h:=j48 (U1:=U1) (U2:=U2) (V1:=[y]) (V2:=[]) hU (by simpa using Srt.one y) (by simp) (λz hz x hx=>by simp at hz;subst hz;exact h2 x hx);simp only[List.append_nil]at h;rw[h,jAt hU.right,jAt (hU.left.append (Srt.one y) λa ha b hb=>by simp at hb;subst hb;exact h1 a ha)];simp
theorem jCw (P U R:List Pr) (k:Nat) (h:k<U.length):(P++(U++R))[P.length+k]! = U[k]!:=by
 simp[List.getElem!_eq_getElem?_getD,List.getElem?_append_right,List.getElem?_append_left,h]
theorem j4q (U:List Pr) (k:Nat) (h:k<U.length):U[k]! = U[k]:=by
 simp[List.getElem!_eq_getElem?_getD,h]
theorem j4z {U:List Pr} (hU:Srt U) {i j:Nat} (hij:i≤j) (hj:j<U.length):U[i]!.id≤U[j]!.id:=by
 rw[j4q U i (by omega),j4q U j hj];rcases Nat.eq_or_lt_of_le hij with rfl|h
 ·exact Nat.le_refl _
 ·exact (List.pairwise_iff_getElem.1 hU) i j (by omega) hj h
theorem j30 {U:List Pr} {s:Nat} {x:Pr} (h:x∈U.take s):∃ i,i<s∧i<U.length∧x=U[i]!:=by
 obtain ⟨i,hi,he⟩:=List.mem_take_iff_getElem.1 h;exact ⟨i,by omega,by omega,by rw[j4q U i (by omega)];exact he.symm⟩
theorem j2z {U:List Pr} {s:Nat} {x:Pr} (h:x∈U.drop s):∃ i,s≤i∧i<U.length∧x=U[i]!:=by
 obtain ⟨i,hi,he⟩:=List.mem_drop_iff_getElem.1 h;exact ⟨s+i,by omega,by omega,by rw[j4q U (s+i) (by omega)];exact he.symm⟩
theorem jGy {U V:List Pr} (hU:Srt U) (hV:Srt V) {s e:Nat} (hs:s≤U.length) (h:s=0∨e=V.length∨U[s - 1]!.id≤V[e]!.id):∀ x∈U.take s,∀ y∈V.drop e,x.id≤y.id:=by
 intro x hx y hy;obtain ⟨i,h1,h2,rfl⟩:=j30 hx;obtain ⟨j,h3,h4,rfl⟩:=j2z hy;rcases h with h|h|h
 ·omega
 ·omega
 ·have a:=j4z hU (i:=i) (j:=s - 1) (by omega) (by omega)
  have b:=j4z hV (i:=e) (j:=j) (by omega) (by omega);omega
theorem jGz {U V:List Pr} (hU:Srt U) (hV:Srt V) {s e:Nat} (he:e≤V.length) (h:e=0∨s=U.length∨V[e - 1]!.id<U[s]!.id):∀ y∈V.take e,∀ x∈U.drop s,y.id<x.id:=by
 intro y hy x hx;obtain ⟨i,h1,h2,rfl⟩:=j30 hy;obtain ⟨j,h3,h4,rfl⟩:=j2z hx;rcases h with h|h|h
 ·omega
 ·omega
 ·have a:=j4z hV (i:=i) (j:=e - 1) (by omega) (by omega)
  have b:=j4z hU (i:=s) (j:=j) (by omega) (by omega);omega
set_option maxRecDepth 100000
theorem jBj:(Tryz.prog.info? 82).map (λi=>(i.zero,i.size,i.bytes))=some (some (.agg #[.int .u8 0,.int .u32 0,.string ⟨#[]⟩,.string ⟨#[]⟩]),4,40):=by kernel_rfl
theorem jA5:(Tryz.prog.info? 46).map (λi=>(i.zero,i.size,i.bytes))=some (some (.agg #[.int .u8 0,.int .u32 0,.string ⟨#[]⟩,.string ⟨#[]⟩]),4,40):=by kernel_rfl
def Dat (t:TypeId) (w:World) (g:Nat) (X:List Value) (L:List Pr):Prop:=Blk w g t (PC L++X).toArray
theorem Dat.lt {t:TypeId} {w:World} {g:Nat} {X:List Value} {L:List Pr} (h:Dat t w g X L):g<w.heap.size:=Blk.lt h
theorem Dat.kept {t:TypeId} {w w':World} {S:Nat→Prop} {g:Nat} {X:List Value} {L:List Pr} (h:Dat t w g X L) (hk:Kept S w w') (hS:¬ S g):Dat t w' g X L:=Blk.kept h hk hS
theorem j9k (A R:List Pr) (x:Pr) (X:List Value):PC (A++x :: R)++X=PC A++(x.cells++(PC R++X)):=by
 rw[vy,j4i];simp
theorem Dat.cellx {t:TypeId} {w:World} {g:Nat} {X:List Value} {A R:List Pr} {x:Pr} (h:Dat t w g X (A++x :: R)) (j:Nat) (hj:j<4):w.cell? ⟨g,A.length*4+j,none⟩=x.cells[j]?:=by
 unfold Dat at h;rw[h.cell,j9k];simp only[List.getElem?_toArray];rw[List.getElem?_append_right (by rw[vh];omega),vh,Nat.add_sub_cancel_left,List.getElem?_append_left (by simpa [Pr.cells] using hj)]
theorem Dat.cells {t:TypeId} {w:World} {g:Nat} {X:List Value} {A R:List Pr} {x:Pr} (h:Dat t w g X (A++x :: R)) {i:Nat} (hi:i=A.length) :
  w.cell? ⟨g,i*4,none⟩=some (.int .u8 x.id)∧w.cell? ⟨g,i*4+1,none⟩=some (.int .u32 x.n)∧w.cell? ⟨g,i*4+2,none⟩=some (.string x.a)∧w.cell? ⟨g,i*4+3,none⟩=some (.string x.b):=by
 subst hi;exact ⟨h.cellx 0 (by decide),h.cellx 1 (by decide),h.cellx 2 (by decide),h.cellx 3 (by decide)⟩
theorem jEn (x:Pr) (g p:Nat) (w:World) (h0:w.cell? ⟨g,p,none⟩=some (.int .u8 x.id)) (h1:w.cell? ⟨g,p+1,none⟩=some (.int .u32 x.n)) (h2:w.cell? ⟨g,p+2,none⟩=some (.string x.a)) (h3:w.cell? ⟨g,p+3,none⟩=some (.string x.b)) :
  (Instr.loadAt 82 (.pointer (some ⟨g,p,none⟩))).run Tryz.prog w=.ok x.val w:=by
 have u:=Tryz.underlying82
 go_simp
 rfl
theorem Dat.load {w:World} {g:Nat} {X:List Value} {A R:List Pr} {x:Pr} (h:Dat 82 w g X (A++x :: R)) {i:Nat} (hi:i=A.length) :
  (Instr.loadAt 82 (.pointer (some ⟨g,i*4,none⟩))).run Tryz.prog w=.ok x.val w:=by
 obtain ⟨q0,q1,q2,q3⟩:=h.cells hi;exact jEn x g (i*4) w q0 q1 q2 q3
theorem jEo (x:Pr) (g p:Nat) (w:World) (h0:w.cell? ⟨g,p,none⟩=some (.int .u8 x.id)) (h1:w.cell? ⟨g,p+1,none⟩=some (.int .u32 x.n)) (h2:w.cell? ⟨g,p+2,none⟩=some (.string x.a)) (h3:w.cell? ⟨g,p+3,none⟩=some (.string x.b)) :
  (Instr.loadAt 46 (.pointer (some ⟨g,p,none⟩))).run Tryz.prog w=.ok x.val w:=by
 have u:=Tryz.underlying46
 go_simp
 rfl
theorem Dat.loadR {w:World} {g:Nat} {X:List Value} {A R:List Pr} {x:Pr} (h:Dat 46 w g X (A++x :: R)) {i:Nat} (hi:i=A.length) :
  (Instr.loadAt 46 (.pointer (some ⟨g,i*4,none⟩))).run Tryz.prog w=.ok x.val w:=by
 obtain ⟨q0,q1,q2,q3⟩:=h.cells hi;exact jEo x g (i*4) w q0 q1 q2 q3
def j4x (F:Array Value):Nat→List Value→Array Value
 | _,[]=>F
 | s,v :: r=>j4x (F.setIfInBounds s v) (s+1) r
theorem j1i:∀ (vs mid A C:List Value),mid.length=vs.length→j4x (A++(mid++C)).toArray A.length vs=(A++(vs++C)).toArray
 | [],mid,A,C,h=>by
  have:mid=[]:=List.length_eq_zero_iff.1 (by simpa using h)
  subst this
  rfl
 | v :: r,[],A,C,h=>by simp at h
 | v :: r,m :: mid,A,C,h=>by
  rw[j4x]
  have e1:(A++(m :: mid++C)).toArray.setIfInBounds A.length v=((A++[v])++(mid++C)).toArray:=by
   simp[List.set_append_right]
  have e2:A.length+1=(A++[v]).length:=by simp
  rw[e1,e2,j1i r mid (A++[v]) C (by simpa using h)];simp
theorem j0q {g:Nat} {t:TypeId}:∀ (vs:List Value) (p:Nat) (w:World) (cs:Array Value),Blk w g t cs→Blk (w.setCells g p vs) g t (j4x cs p vs)
 | [],_,_,_,h=>h
 | v :: r,p,w,cs,h=>j0q r (p+1) _ _ (h.set_ p v)
theorem j0i {g:Nat} {w0:World}:∀ (vs:List Value) (p:Nat) (w:World),Kept (One g) w0 w→Kept (One g) w0 (w.setCells g p vs)
 | [],_,_,h=>h
 | v :: r,p,w,h=>j0i r (p+1) _ (h.setCell (p:=⟨g,p,none⟩) (.inr rfl) v)
theorem Dat.store {w:World} {g:Nat} {X:List Value} {A R:List Pr} {x:Pr} (p:Pr) (h:Dat 82 w g X (A++x :: R)) {i:Nat} (hi:i=A.length) :
  ∃ w',(Instr.storeAt 82 (.pointer (some ⟨g,i*4,none⟩)) p.val).run Tryz.prog w=.ok () w'∧Dat 82 w' g X (A++p :: R)∧Kept (One g) w w':=by
 subst hi
 have hB:Blk w g 82 (PC A++(x.cells++(PC R++X))).toArray:=by
  have h2:=h;unfold Dat at h2
  rwa [j9k]at h2
 have hc:∀ j,j<p.cells.length→(w.cell? ⟨g,A.length*4+0+j,none⟩).isSome=true:=λj hj=>by
  have hj4:j<4:=by simpa [Pr.cells] using hj
  rw[Nat.add_zero,h.cellx j hj4]
  have:j<x.cells.length:=by simpa [Pr.cells] using hj4
  rw[List.getElem?_eq_getElem this]
  rfl
 have hf:∀ j,j<p.cells.length→w.frozen? ⟨g,A.length*4+0+j,none⟩=false:=λj _=>hB.frozen _
 have h1:∀ v∈p.cells,v.oneCell'=true:=λv hv=>xX [p] v (by rw[jB1];exact hv)
 have hrun:=run_storeCells_cells (P:=Tryz.prog) g (A.length*4) p.cells 0 w hc hf h1;obtain ⟨i0,hi,hz0,hz1,hz2⟩:=info_parts jBj;refine ⟨w.setCells g (A.length*4) p.cells,?_,?_,j0i _ _ _ (Kept.refl _ _)⟩
 ·have e5:(Instr.storeAt 82 (.pointer (some ⟨g,A.length*4,none⟩)) p.val).run Tryz.prog w=(storeVar 82 ⟨g,A.length*4,none⟩ p.val).run Tryz.prog w:=by rfl
  rw[e5];have e6:p.val.cells.toList=p.cells:=rfl;simp only[Nat.add_zero]at hrun;simp[storeVar,sizeOf,typeInfo,hi,Pr.val,Value.cells,hz1];exact hrun
 ·have:=j0q p.cells (A.length*4) w _ hB
  have e:A.length*4=(PC A).length:=(vh A).symm;unfold Dat;rw[j9k];rw[e]at this ⊢;rw[j1i p.cells x.cells (PC A) (PC R++X) rfl]at this;exact this
theorem Dat.storeR {w:World} {g:Nat} {X:List Value} {A R:List Pr} {x:Pr} (p:Pr) (h:Dat 46 w g X (A++x :: R)) {i:Nat} (hi:i=A.length) :
  ∃ w',(Instr.storeAt 46 (.pointer (some ⟨g,i*4,none⟩)) p.val).run Tryz.prog w=.ok () w'∧Dat 46 w' g X (A++p :: R)∧Kept (One g) w w':=by
 subst hi
 have hB:Blk w g 46 (PC A++(x.cells++(PC R++X))).toArray:=by
  have h2:=h;unfold Dat at h2
  rwa [j9k]at h2
 have hc:∀ j,j<p.cells.length→(w.cell? ⟨g,A.length*4+0+j,none⟩).isSome=true:=λj hj=>by
  have hj4:j<4:=by simpa [Pr.cells] using hj
  rw[Nat.add_zero,h.cellx j hj4]
  have:j<x.cells.length:=by simpa [Pr.cells] using hj4
  rw[List.getElem?_eq_getElem this]
  rfl
 have hf:∀ j,j<p.cells.length→w.frozen? ⟨g,A.length*4+0+j,none⟩=false:=λj _=>hB.frozen _
 have h1:∀ v∈p.cells,v.oneCell'=true:=λv hv=>xX [p] v (by rw[jB1];exact hv)
 have hrun:=run_storeCells_cells (P:=Tryz.prog) g (A.length*4) p.cells 0 w hc hf h1;obtain ⟨i0,hi,hz0,hz1,hz2⟩:=info_parts jA5;refine ⟨w.setCells g (A.length*4) p.cells,?_,?_,j0i _ _ _ (Kept.refl _ _)⟩
 ·have e5:(Instr.storeAt 46 (.pointer (some ⟨g,A.length*4,none⟩)) p.val).run Tryz.prog w=(storeVar 46 ⟨g,A.length*4,none⟩ p.val).run Tryz.prog w:=by rfl
  rw[e5];have e6:p.val.cells.toList=p.cells:=rfl;simp only[Nat.add_zero]at hrun;simp[storeVar,sizeOf,typeInfo,hi,Pr.val,Value.cells,hz1];exact hrun
 ·have:=j0q p.cells (A.length*4) w _ hB
  have e:A.length*4=(PC A).length:=(vh A).symm;unfold Dat;rw[j9k];rw[e]at this ⊢;rw[j1i p.cells x.cells (PC A) (PC R++X) rfl]at this;exact this
theorem Dat.swap1R {w:World} {g:Nat} {X:List Value} {A B C:List Pr} {u v:Pr} (h:Dat 46 w g X (A++u :: (B++v :: C))) {i j:Nat} (hi:i=A.length) (hj:j=A.length+1+B.length) :
  ∃ w1,(Instr.storeAt 46 (.pointer (some ⟨g,i*4,none⟩)) v.val).run Tryz.prog w=.ok () w1∧Kept (One g) w w1 ∧
   ∃ w2,(Instr.storeAt 46 (.pointer (some ⟨g,j*4,none⟩)) u.val).run Tryz.prog w1=.ok () w2∧Kept (One g) w1 w2∧Dat 46 w2 g X (A++v :: (B++u :: C)):=by
 obtain ⟨w1,e1,d1,k1⟩:=h.storeR v hi;have d1':Dat 46 w1 g X ((A++v :: B)++v :: C):=by simpa using d1
 obtain ⟨w2,e2,d2,k2⟩:=d1'.storeR u (i:=j) (by simp;omega);exact ⟨w1,e1,k1,w2,e2,k2,by simpa using d2⟩
theorem j31 {P:Program} {o:Oper} {a:Act} {w:World} {K:Act→World→Prop} {Q:Exit→Act→World→Prop} (S:TypeId) (s:Operand) {v u:Value} (hop:o.op=Op.load S s)
  (hs:a.eval s=v) (hrun:(Instr.loadAt S v).run P w=.ok u w) (hK:K (a.put o.dst u) w):o.wp P a w K Q:=by
 unfold Oper.wp;simp only[execOp,hop,hs];simp[hrun,Result.andThen];exact hK
theorem j1t {P:Program} {o:Oper} {a:Act} {w w':World} {K:Act→World→Prop} {Q:Exit→Act→World→Prop} (S:TypeId) (s x:Operand) {v u:Value} (hop:o.op=Op.store S s x)
  (hs:a.eval s=v) (hx:a.eval x=u) (hrun:(Instr.storeAt S v u).run P w=.ok () w') (hK:K (a.put o.dst undef) w'):o.wp P a w K Q:=by
 unfold Oper.wp;simp only[execOp,hop,hs,hx];simp[hrun,Result.andThen];exact hK
theorem jGv {M1 N1 N2:List Pr} {x:Pr} (h:jX M1=N1++N2) (h1:N1=[]∨∃ N1' y,N1=N1'++[y]∧¬ x.id<y.id) (h2:∀ y∈N2,x.id<y.id):jX (M1++[x])=N1++x :: N2:=by
 have hs:Srt (N1++N2):=by rw[← h];exact xV M1
 have e:jX (M1++[x])=jX ((N1++N2)++[x]):=jAs ((by rw[← h];exact xW M1:Ste M1 (N1++N2)).append (Ste.refl [x]));rw[e];refine jC6 hs (λz hz=>?_) h2;rcases h1 with rfl|⟨N1',y,rfl,hy⟩
 ·simp at hz
 ·rcases List.mem_append.1 hz with hz|hz
  ·have:=hs.left.cross z hz y (by simp)
   omega
  ·rw[List.mem_singleton.1 hz];omega
end Go.Proofs.YtkochkhfbhjicaaGreatDoor
