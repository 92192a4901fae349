import Derived.Test.YtomppebamfpimaaGreatDoorYF3
import Derived.Laws.Tables
import Derived.Laws.IdiomCopy
import Derived.Deep.RegionHeld3
namespace Go.Proofs.YtomppebamfpimaaGreatDoor
open Go.RowKit
set_option linter.unusedVariables false
set_option linter.unusedSimpArgs false
instance : Inhabited Pr := ⟨Pr.zero⟩
def sortL (L : List Pr) : List Pr := L.mergeSort (fun p q => decide (p.id ≤ q.id))
def Srt (L : List Pr) : Prop := L.Pairwise fun p q => p.id ≤ q.id
def idf (i : Nat) (L : List Pr) : List Pr := L.filter fun p => decide (p.id = i)
def Ste (L M : List Pr) : Prop := ∀ i, idf i L = idf i M
theorem Ste.refl (L : List Pr) : Ste L L := fun _ => rfl
theorem Ste.symm {L M : List Pr} (h : Ste L M) : Ste M L := fun i => (h i).symm
theorem Ste.trans {L M N : List Pr} (h : Ste L M) (k : Ste M N) : Ste L N := fun i => (h i).trans (k i)
theorem idf_append (i : Nat) (L M : List Pr) : idf i (L ++ M) = idf i L ++ idf i M := by simp [idf]
theorem Ste.append {L L' M M' : List Pr} (h : Ste L L') (k : Ste M M') : Ste (L ++ M) (L' ++ M') := fun i => by rw [idf_append, idf_append, h i, k i]
theorem idf_pos {i : Nat} {p : Pr} {L : List Pr} (h : p.id = i) : idf i (p :: L) = p :: idf i L := by simp [idf, h]
theorem idf_neg {i : Nat} {p : Pr} {L : List Pr} (h : p.id ≠ i) : idf i (p :: L) = idf i L := by simp [idf, h]
theorem idf_nil {i : Nat} {L : List Pr} (h : ∀ x ∈ L, x.id ≠ i) : idf i L = [] := by
 unfold idf
 rw [List.filter_eq_nil_iff]
 intro x hx
 simpa using h x hx
theorem srt_uniq : ∀ {L M : List Pr}, Srt L → Srt M → Ste L M → L = M
 | [], [], _, _, _ => rfl
 | [], q :: M, _, _, h => by have := h q.id; rw [idf_pos rfl] at this; cases this
 | p :: L, [], _, _, h => by have := h p.id; rw [idf_pos rfl] at this; cases this
 | p :: L, q :: M, hL, hM, h => by
  have a := List.pairwise_cons.1 hL
  have b := List.pairwise_cons.1 hM
  have hpq : p.id = q.id := by
   rcases Nat.lt_trichotomy p.id q.id with hlt | he | hlt
   ·have h1 := h p.id
    rw [idf_pos rfl, idf_nil (L := q :: M)] at h1
    ·cases h1
    ·intro x hx
     rcases List.mem_cons.1 hx with rfl | hx
     ·omega
     ·have := b.1 x hx; omega
   ·exact he
   ·have h1 := h q.id
    rw [idf_pos (p := q) rfl, idf_nil (L := p :: L)] at h1
    ·cases h1
    ·intro x hx
     rcases List.mem_cons.1 hx with rfl | hx
     ·omega
     ·have := a.1 x hx; omega
  have h1 := h p.id
  rw [idf_pos rfl, idf_pos hpq.symm] at h1
  injection h1 with e1 e2
  subst e1
  rw [srt_uniq a.2 b.2 fun i => ?_]
  have h3 := h i
  by_cases hi : p.id = i
  ·rw [idf_pos hi, idf_pos hi] at h3
   injection h3
  ·rwa [idf_neg hi, idf_neg hi] at h3
theorem sortL_srt (L : List Pr) : Srt (sortL L) := by
 have h := List.pairwise_mergeSort (le := fun p q : Pr => decide (p.id ≤ q.id)) (by intro a b c; simp; omega) (by intro a b; simp; omega) L
 exact h.imp fun h => by simpa using h
theorem sortL_perm (L : List Pr) : (sortL L).Perm L := List.mergeSort_perm _ _
theorem sortL_mem {L : List Pr} {x : Pr} : x ∈ sortL L ↔ x ∈ L := (sortL_perm L).mem_iff
theorem sortL_ste (L : List Pr) : Ste L (sortL L) := fun i => by
 have h1 : (idf i L).Pairwise (fun p q : Pr => decide (p.id ≤ q.id) = true) := by
  rw [List.pairwise_iff_forall_sublist]
  intro a b hs
  have ha : a ∈ idf i L := hs.subset (by simp)
  have hb : b ∈ idf i L := hs.subset (by simp)
  have ha2 : a.id = i := by simpa using (List.mem_filter.1 ha).2
  have hb2 : b.id = i := by simpa using (List.mem_filter.1 hb).2
  simp
  omega
 have h2 : (idf i L).Sublist (sortL L) := List.sublist_mergeSort (le := fun p q : Pr => decide (p.id ≤ q.id)) (by intro a b c; simp; omega) (by intro a b; simp; omega) h1 List.filter_sublist
 have h3 : (idf i (idf i L)).Sublist (idf i (sortL L)) := h2.filter _
 have h4 : idf i (idf i L) = idf i L := by unfold idf; rw [List.filter_filter]; simp
 rw [h4] at h3
 exact h3.eq_of_length ((sortL_perm L).filter _).length_eq.symm
theorem sortL_eq {L M : List Pr} (h : Srt M) (k : Ste L M) : sortL L = M := srt_uniq (sortL_srt L) h ((sortL_ste L).symm.trans k)
theorem Srt.append {L M : List Pr} (h : Srt L) (k : Srt M) (c : ∀ x ∈ L, ∀ y ∈ M, x.id ≤ y.id) : Srt (L ++ M) := List.pairwise_append.2 ⟨h, k, c⟩
theorem Srt.left {L M : List Pr} (h : Srt (L ++ M)) : Srt L := (List.pairwise_append.1 h).1
theorem Srt.cross {L M : List Pr} (h : Srt (L ++ M)) : ∀ x ∈ L, ∀ y ∈ M, x.id ≤ y.id := (List.pairwise_append.1 h).2.2
theorem Srt.one (p : Pr) : Srt [p] := List.pairwise_singleton _ _
theorem Srt.nil : Srt [] := List.Pairwise.nil
theorem sortL_split {U1 U2 V1 V2 : List Pr} (hU : Srt (U1 ++ U2)) (hV : Srt (V1 ++ V2)) (h1 : ∀ x ∈ U1, ∀ y ∈ V2, x.id ≤ y.id) (h2 : ∀ y ∈ V1, ∀ x ∈ U2, y.id < x.id) :
  sortL ((U1 ++ U2) ++ (V1 ++ V2)) = sortL (U1 ++ V1) ++ sortL (U2 ++ V2) := by
 refine sortL_eq ((sortL_srt _).append (sortL_srt _) fun x hx y hy => ?_) ?_
 ·rw [sortL_mem, List.mem_append] at hx hy
  rcases hx with hx | hx <;> rcases hy with hy | hy
  ·exact hU.cross x hx y hy
  ·exact h1 x hx y hy
  ·exact Nat.le_of_lt (h2 x hx y hy)
  ·exact hV.cross x hx y hy
 ·have e : Ste ((U1 ++ U2) ++ (V1 ++ V2)) ((U1 ++ V1) ++ (U2 ++ V2)) := fun i => by
   simp only [idf_append, List.append_assoc]
   congr 1
   rw [← List.append_assoc, ← List.append_assoc]
   congr 1
   by_cases hv : ∃ y ∈ V1, y.id = i
   ·obtain ⟨y, hy, rfl⟩ := hv
    rw [idf_nil (L := U2) fun x hx => by have := h2 y hy x hx; omega]
    simp
   ·rw [idf_nil (L := V1) fun x hx he => hv ⟨x, hx, he⟩]
    simp
  exact e.trans ((sortL_ste _).append (sortL_ste _))
theorem get_mid (P U R : List Pr) (k : Nat) (h : k < U.length) : (P ++ (U ++ R))[P.length + k]! = U[k]! := by
 simp [List.getElem!_eq_getElem?_getD, List.getElem?_append_right, List.getElem?_append_left, h]
theorem get_pos (U : List Pr) (k : Nat) (h : k < U.length) : U[k]! = U[k] := by
 simp [List.getElem!_eq_getElem?_getD, h]
theorem srt_get {U : List Pr} (hU : Srt U) {i j : Nat} (hij : i ≤ j) (hj : j < U.length) : U[i]!.id ≤ U[j]!.id := by
 rw [get_pos U i (by omega), get_pos U j hj]
 rcases Nat.eq_or_lt_of_le hij with rfl | h
 ·exact Nat.le_refl _
 ·exact (List.pairwise_iff_getElem.1 hU) i j (by omega) hj h
theorem mem_take_get {U : List Pr} {s : Nat} {x : Pr} (h : x ∈ U.take s) : ∃ i, i < s ∧ i < U.length ∧ x = U[i]! := by
 obtain ⟨i, hi, he⟩ := List.mem_take_iff_getElem.1 h
 exact ⟨i, by omega, by omega, by rw [get_pos U i (by omega)]; exact he.symm⟩
theorem mem_drop_get {U : List Pr} {s : Nat} {x : Pr} (h : x ∈ U.drop s) : ∃ i, s ≤ i ∧ i < U.length ∧ x = U[i]! := by
 obtain ⟨i, hi, he⟩ := List.mem_drop_iff_getElem.1 h
 exact ⟨s + i, by omega, by omega, by rw [get_pos U (s + i) (by omega)]; exact he.symm⟩
theorem le_split {U V : List Pr} (hU : Srt U) (hV : Srt V) {s e : Nat} (hs : s ≤ U.length) (h : s = 0 ∨ e = V.length ∨ U[s - 1]!.id ≤ V[e]!.id) : ∀ x ∈ U.take s, ∀ y ∈ V.drop e, x.id ≤ y.id := by
 intro x hx y hy
 obtain ⟨i, h1, h2, rfl⟩ := mem_take_get hx
 obtain ⟨j, h3, h4, rfl⟩ := mem_drop_get hy
 rcases h with h | h | h
 ·omega
 ·omega
 ·have a := srt_get hU (i := i) (j := s - 1) (by omega) (by omega)
  have b := srt_get hV (i := e) (j := j) (by omega) (by omega)
  omega
theorem lt_split {U V : List Pr} (hU : Srt U) (hV : Srt V) {s e : Nat} (he : e ≤ V.length) (h : e = 0 ∨ s = U.length ∨ V[e - 1]!.id < U[s]!.id) : ∀ y ∈ V.take e, ∀ x ∈ U.drop s, y.id < x.id := by
 intro y hy x hx
 obtain ⟨i, h1, h2, rfl⟩ := mem_take_get hy
 obtain ⟨j, h3, h4, rfl⟩ := mem_drop_get hx
 rcases h with h | h | h
 ·omega
 ·omega
 ·have a := srt_get hV (i := i) (j := e - 1) (by omega) (by omega)
  have b := srt_get hU (i := s) (j := j) (by omega) (by omega)
  omega
set_option maxRecDepth 100000
theorem infoS_prop : (Tryz.prog.info? 142).map (fun i => (i.zero, i.size, i.bytes)) = some (some (.agg #[.int .u8 0, .int .u32 0, .string ⟨#[]⟩, .string ⟨#[]⟩]), 4, 40) := by kernel_rfl
def Dat (t : TypeId) (w : World) (g : Nat) (X : List Value) (L : List Pr) : Prop := Blk w g t (PC L ++ X).toArray
theorem Dat.lt {t : TypeId} {w : World} {g : Nat} {X : List Value} {L : List Pr} (h : Dat t w g X L) : g < w.heap.size := Blk.lt h
theorem Dat.kept {t : TypeId} {w w' : World} {S : Nat → Prop} {g : Nat} {X : List Value} {L : List Pr} (h : Dat t w g X L) (hk : Kept S w w') (hS : ¬ S g) : Dat t w' g X L := Blk.kept h hk hS
theorem PC_at (A R : List Pr) (x : Pr) (X : List Value) : PC (A ++ x :: R) ++ X = PC A ++ (x.cells ++ (PC R ++ X)) := by
 rw [PC_append, PC_cons]; simp
theorem Dat.cellx {t : TypeId} {w : World} {g : Nat} {X : List Value} {A R : List Pr} {x : Pr} (h : Dat t w g X (A ++ x :: R)) (j : Nat) (hj : j < 4) : w.cell? ⟨g, A.length * 4 + j, none⟩ = x.cells[j]? := by
 unfold Dat at h
 rw [h.cell, PC_at]
 simp only [List.getElem?_toArray]
 rw [List.getElem?_append_right (by rw [PC_length]; omega), PC_length, Nat.add_sub_cancel_left, List.getElem?_append_left (by simpa [Pr.cells] using hj)]
theorem Dat.cells {t : TypeId} {w : World} {g : Nat} {X : List Value} {A R : List Pr} {x : Pr} (h : Dat t w g X (A ++ x :: R)) {i : Nat} (hi : i = A.length) :
  w.cell? ⟨g, i * 4, none⟩ = some (.int .u8 x.id) ∧ w.cell? ⟨g, i * 4 + 1, none⟩ = some (.int .u32 x.n) ∧ w.cell? ⟨g, i * 4 + 2, none⟩ = some (.string x.a) ∧ w.cell? ⟨g, i * 4 + 3, none⟩ = some (.string x.b) := by
 subst hi
 exact ⟨h.cellx 0 (by decide), h.cellx 1 (by decide), h.cellx 2 (by decide), h.cellx 3 (by decide)⟩
theorem run_loadP (x : Pr) (g p : Nat) (w : World) (h0 : w.cell? ⟨g, p, none⟩ = some (.int .u8 x.id)) (h1 : w.cell? ⟨g, p + 1, none⟩ = some (.int .u32 x.n)) (h2 : w.cell? ⟨g, p + 2, none⟩ = some (.string x.a)) (h3 : w.cell? ⟨g, p + 3, none⟩ = some (.string x.b)) :
  (Instr.loadAt 142 (.pointer (some ⟨g, p, none⟩))).run Tryz.prog w = .ok x.val w := by
 have u := Tryz.underlying142
 go_simp
 rfl
theorem Dat.load {w : World} {g : Nat} {X : List Value} {A R : List Pr} {x : Pr} (h : Dat 142 w g X (A ++ x :: R)) {i : Nat} (hi : i = A.length) :
  (Instr.loadAt 142 (.pointer (some ⟨g, i * 4, none⟩))).run Tryz.prog w = .ok x.val w := by
 obtain ⟨q0, q1, q2, q3⟩ := h.cells hi
 exact run_loadP x g (i * 4) w q0 q1 q2 q3
def setMany (F : Array Value) : Nat → List Value → Array Value
 | _, [] => F
 | s, v :: r => setMany (F.setIfInBounds s v) (s + 1) r
theorem setMany_mid : ∀ (vs mid A C : List Value), mid.length = vs.length → setMany (A ++ (mid ++ C)).toArray A.length vs = (A ++ (vs ++ C)).toArray
 | [], mid, A, C, h => by
  have : mid = [] := List.length_eq_zero_iff.1 (by simpa using h)
  subst this
  rfl
 | v :: r, [], A, C, h => by simp at h
 | v :: r, m :: mid, A, C, h => by
  rw [setMany]
  have e1 : (A ++ (m :: mid ++ C)).toArray.setIfInBounds A.length v = ((A ++ [v]) ++ (mid ++ C)).toArray := by
   simp [List.set_append_right]
  have e2 : A.length + 1 = (A ++ [v]).length := by simp
  rw [e1, e2, setMany_mid r mid (A ++ [v]) C (by simpa using h)]
  simp
theorem blk_setCells {g : Nat} {t : TypeId} : ∀ (vs : List Value) (p : Nat) (w : World) (cs : Array Value), Blk w g t cs → Blk (w.setCells g p vs) g t (setMany cs p vs)
 | [], _, _, _, h => h
 | v :: r, p, w, cs, h => blk_setCells r (p + 1) _ _ (h.set_ p v)
theorem kept_setCells {g : Nat} {w0 : World} : ∀ (vs : List Value) (p : Nat) (w : World), Kept (One g) w0 w → Kept (One g) w0 (w.setCells g p vs)
 | [], _, _, h => h
 | v :: r, p, w, h => kept_setCells r (p + 1) _ (h.setCell (p := ⟨g, p, none⟩) (.inr rfl) v)
theorem Dat.store {w : World} {g : Nat} {X : List Value} {A R : List Pr} {x : Pr} (p : Pr) (h : Dat 142 w g X (A ++ x :: R)) {i : Nat} (hi : i = A.length) :
  ∃ w', (Instr.storeAt 142 (.pointer (some ⟨g, i * 4, none⟩)) p.val).run Tryz.prog w = .ok () w' ∧ Dat 142 w' g X (A ++ p :: R) ∧ Kept (One g) w w' := by
 subst hi
 have hB : Blk w g 142 (PC A ++ (x.cells ++ (PC R ++ X))).toArray := by
  have h2 := h
  unfold Dat at h2
  rwa [PC_at] at h2
 have hc : ∀ j, j < p.cells.length → (w.cell? ⟨g, A.length * 4 + 0 + j, none⟩).isSome = true := fun j hj => by
  have hj4 : j < 4 := by simpa [Pr.cells] using hj
  rw [Nat.add_zero, h.cellx j hj4]
  have : j < x.cells.length := by simpa [Pr.cells] using hj4
  rw [List.getElem?_eq_getElem this]
  rfl
 have hf : ∀ j, j < p.cells.length → w.frozen? ⟨g, A.length * 4 + 0 + j, none⟩ = false := fun j _ => hB.frozen _
 have h1 : ∀ v ∈ p.cells, v.oneCell' = true := fun v hv => PC_cell1 [p] v (by rw [PC_one]; exact hv)
 have hrun := run_storeCells_cells (P := Tryz.prog) g (A.length * 4) p.cells 0 w hc hf h1
 obtain ⟨i0, hi, hz0, hz1, hz2⟩ := info_parts infoS_prop
 refine ⟨w.setCells g (A.length * 4) p.cells, ?_, ?_, kept_setCells _ _ _ (Kept.refl _ _)⟩
 ·have e5 : (Instr.storeAt 142 (.pointer (some ⟨g, A.length * 4, none⟩)) p.val).run Tryz.prog w = (storeVar 142 ⟨g, A.length * 4, none⟩ p.val).run Tryz.prog w := by rfl
  rw [e5]
  have e6 : p.val.cells.toList = p.cells := rfl
  simp only [Nat.add_zero] at hrun
  simp [storeVar, sizeOf, typeInfo, hi, Pr.val, Value.cells, hz1]
  exact hrun
 ·have := blk_setCells p.cells (A.length * 4) w _ hB
  have e : A.length * 4 = (PC A).length := (PC_length A).symm
  unfold Dat
  rw [PC_at]
  rw [e] at this ⊢
  rw [setMany_mid p.cells x.cells (PC A) (PC R ++ X) rfl] at this
  exact this
end Go.Proofs.YtomppebamfpimaaGreatDoor
