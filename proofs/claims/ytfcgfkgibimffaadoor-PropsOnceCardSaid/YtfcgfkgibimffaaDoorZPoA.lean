/-
  PropsOnce: what is put of a list in any order is taken in order; exchanges.
-/
import Derived.Test.YtfcgfkgibimffaaDoorZPyW
namespace Go.Proofs.YtfcgfkgibimffaaDoor
open Go.RowKit
set_option linter.unusedVariables false
set_option linter.unusedSimpArgs false
set_option maxRecDepth 100000

theorem Fixd.putPerm {k : Int} {M Z : List Pr} (h : Fixd k M) (hp : Z.Perm M) : (putL [] Z).length ≤ 4010 ∧ takeR (putL [] Z) 0 = (sortL Z, true) ∧ takeLeft (putL [] Z) 0 = [] ∧ takeErr (putL [] Z) 0 = 0 ∧ takeSec (putL [] Z) 0 = layAll Z ∧ eachL (layAll Z) = (Z, true) := by
  have hl := h.lay
  rw [← layAll_perm hp] at hl
  have hw : ∀ p ∈ Z, p.wf' := fun p hm => (h.sm p (hp.mem_iff.1 hm)).1
  have hok : ∀ p ∈ Z, p.ok = true := fun p hm => h.ok p (hp.mem_iff.1 hm)
  have hg := lenGo_all Z 0 hw hok (by omega)
  rw [Nat.zero_add] at hg
  obtain ⟨t1, t2, t3, t4, t5⟩ := take_put (L := Z) (n := (layAll Z).length) [] [] hw hg
  simp only [List.append_nil, List.nil_append] at t1 t2 t3 t4 t5
  have hv := varL_le (layAll Z).length
  refine ⟨by rw [t1]; simp; omega, ?_⟩
  rw [t1]
  exact ⟨t2, t3, t4, t5, each_lay Z hw hok⟩
theorem Fixd.putInj {k : Int} {M N : List Pr} (h : Fixd k M) (h' : Fixd k N) : putL [] M = putL [] N ↔ M = N := by
  constructor
  · intro e
    obtain ⟨_, _, _, t, _⟩ := h.put
    obtain ⟨_, _, _, t', _⟩ := h'.put
    rw [e] at t
    rw [t] at t'
    exact (Prod.mk.inj t').1
  · rintro rfl; rfl
theorem swap_perm (A B C : List Pr) (u v : Pr) : (A ++ v :: (B ++ u :: C)).Perm (A ++ u :: (B ++ v :: C)) := by
  refine List.Perm.append_left A ?_
  have h1 : (v :: (B ++ u :: C)).Perm (v :: u :: (B ++ C)) := (List.perm_middle).cons v
  have h2 : (u :: (B ++ v :: C)).Perm (u :: v :: (B ++ C)) := (List.perm_middle).cons u
  exact h1.trans ((List.Perm.swap u v _).trans h2.symm)
theorem cut_at {Z : List Pr} {p : Nat} (hp : p < Z.length) : Z = Z.take p ++ Z[p] :: Z.drop (p + 1) ∧ p = (Z.take p).length := by
  refine ⟨by rw [List.getElem_cons_drop]; simp, by simp; omega⟩
/-- Two places: what lies there, and their exchange. -/
theorem Dat.swapR {w : World} {g : Nat} {X : List Value} {Z : List Pr} {p q : Nat} (h : Dat 58 w g X Z) (hp : p < Z.length) (hq : q < Z.length) (hpq : p ≠ q) :
    ∃ w1, (Instr.storeAt 58 (.pointer (some ⟨g, p * 4, none⟩)) Z[q].val).run Tryd.prog w = .ok () w1 ∧ Kept (One g) w w1 ∧
      ∃ w2, (Instr.storeAt 58 (.pointer (some ⟨g, q * 4, none⟩)) Z[p].val).run Tryd.prog w1 = .ok () w2 ∧ Kept (One g) w1 w2 ∧ ∃ Z', Dat 58 w2 g X Z' ∧ Z'.Perm Z := by
  rcases Nat.lt_or_gt_of_ne hpq with hl | hl
  · have hlen : q - p - 1 < (Z.drop (p + 1)).length := by simp; omega
    have e1 := (cut_at hp).1
    have e2 := (cut_at hlen).1
    have e3 : (Z.drop (p + 1))[q - p - 1] = Z[q] := by rw [List.getElem_drop]; congr 1; omega
    rw [e3] at e2
    rw [e2] at e1
    generalize hu : Z[p] = u at *
    generalize hv : Z[q] = v at *
    have h' := h
    rw [e1] at h'
    obtain ⟨w1, s1, k1, w2, s2, k2, d⟩ := Dat.swap1R h' (i := p) (j := q) (cut_at hp).2 (by simp; omega)
    exact ⟨w1, s1, k1, w2, s2, k2, _, d, (swap_perm _ _ _ u v).trans (List.Perm.of_eq e1.symm)⟩
  · have hlen : p - q - 1 < (Z.drop (q + 1)).length := by simp; omega
    have e1 := (cut_at hq).1
    have e2 := (cut_at hlen).1
    have e3 : (Z.drop (q + 1))[p - q - 1] = Z[p] := by rw [List.getElem_drop]; congr 1; omega
    rw [e3] at e2
    rw [e2] at e1
    generalize hu : Z[p] = u at *
    generalize hv : Z[q] = v at *
    have h' := h
    rw [e1] at h'
    obtain ⟨w1, s1, k1, w2, s2, k2, d⟩ := Dat.swap2R h' (i := q) (j := p) (cut_at hq).2 (by simp; omega)
    exact ⟨w1, s1, k1, w2, s2, k2, _, d, (swap_perm _ _ _ v u).trans (List.Perm.of_eq e1.symm)⟩
theorem Dat.atR {w : World} {g : Nat} {X : List Value} {Z : List Pr} {p : Nat} (h : Dat 58 w g X Z) (hp : p < Z.length) :
    (Instr.loadAt 58 (.pointer (some ⟨g, p * 4, none⟩))).run Tryd.prog w = .ok Z[p].val w ∧ w.cell? ⟨g, p * 4, none⟩ = some (.int .u8 Z[p].id) := by
  have e := (cut_at hp).1
  generalize hu : Z[p] = u at *
  have h' := h
  rw [e] at h'
  exact ⟨h'.loadR (cut_at hp).2, (h'.cells (cut_at hp).2).1⟩

end Go.Proofs.YtfcgfkgibimffaaDoor
