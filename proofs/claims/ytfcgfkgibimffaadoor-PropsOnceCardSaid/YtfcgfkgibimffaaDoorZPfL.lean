/-
  The document's Fix of lists: what it makes, as plain lists; a kind may have it so.
-/
import Derived.Test.YtfcgfkgibimffaaDoorZPpW
import Derived.Test.YtfcgfkgibimffaaDoorZPfx2
namespace Go.Proofs.YtfcgfkgibimffaaDoor
open Go.RowKit
set_option linter.unusedVariables false
set_option linter.unusedSimpArgs false
set_option maxRecDepth 100000

def fxP (k : Int) (p : Pr) : Pr := ⟨fxId p.id k, fxN (fxId p.id k) p.n, fxA (fxId p.id k) p.a, fxB (fxId p.id k) p.b⟩
def fixGo (k : Int) : List Pr → List Pr → Option (List Pr)
  | out, [] => some out
  | out, p :: t => if (fxP k p).id = 0 then none else if (getL out (fxP k p).id).isSome && !oftenB (fxP k p).id k then fixGo k out t else fixGo k (out ++ [fxP k p]) t
def m21 : Pr := ⟨21, 0, fixS ⟨#[109]⟩, ⟨#[]⟩⟩
def addM (out : List Pr) : List Pr := if (getL out 22).isSome && !(getL out 21).isSome then out ++ [m21] else out
def fix6 (L : List Pr) (k : Int) : List Pr := match fixGo k [] (L.take 8) with | none => [] | some out => sortL (addM out)

/-- What is made one by one. -/
structure FixOk (k : Int) (out : List Pr) : Prop where
  val : ∀ p ∈ out, valueB p.id p.n p.a p.b = true ∧ forB p.id k = true ∧ p.id < 256 ∧ p.n < 4294967296 ∧ p.a.size ≤ 32 ∧ p.b.size ≤ 32
  once : ∀ i, 2 ≤ (idf i out).length → oftenB i k = true
theorem fxA_small (q : Nat) (a : ByteArray) : (fxA q a).size ≤ 32 := by
  unfold fxA
  have h1 := fixS_len a
  have h2 := cut9_len a
  have h3 := (made_fix a).size.2
  repeat' split
  all_goals first | omega | (show (⟨#[]⟩ : ByteArray).size ≤ 32; decide)
theorem fxB_small (q : Nat) (b : ByteArray) : (fxB q b).size ≤ 32 := by
  unfold fxB
  have h1 := fixS_len b
  split
  · omega
  · show (⟨#[]⟩ : ByteArray).size ≤ 32
    decide
theorem fxN_small (q n : Nat) (h : n < 4294967296) : fxN q n < 4294967296 := by
  unfold fxN
  repeat' split
  all_goals omega
theorem getL_idf : ∀ (L : List Pr) (i : Nat), (getL L i).isSome = true ↔ 0 < (idf i L).length
  | [], i => by simp [getL, idf]
  | p :: t, i => by
    by_cases h : p.id = i
    · rw [idf_pos h]
      simp [getL, h]
    · rw [idf_neg h, ← getL_idf t i]
      simp [getL, h]
theorem fxP_in {k : Int} {p : Pr} (h : (fxP k p).id ≠ 0) : fxId p.id k ∈ idsL k := by
  by_cases h0 : idsL k = []
  · exfalso
    apply h
    show fxId p.id k = 0
    unfold fxId
    rw [h0]
    rfl
  · exact fxId_mem h0
theorem fxP_ok {k : Int} {p : Pr} (hn : p.n < 4294967296) (h : (fxP k p).id ≠ 0) : valueB (fxP k p).id (fxP k p).n (fxP k p).a (fxP k p).b = true ∧ forB (fxP k p).id k = true ∧ (fxP k p).id < 256 ∧ (fxP k p).n < 4294967296 ∧ (fxP k p).a.size ≤ 32 ∧ (fxP k p).b.size ≤ 32 := by
  obtain ⟨h1, h2, h3, h4, h5⟩ := idsL_mem (fxP_in h)
  exact ⟨fx_value _ _ _ _ hn h2 h3, h5, h2, fxN_small _ _ hn, fxA_small _ _, fxB_small _ _⟩
theorem fixGo_ok {k : Int} : ∀ (L out R : List Pr), (∀ p ∈ L, p.n < 4294967296) → FixOk k out → fixGo k out L = some R → FixOk k R ∧ R.length ≤ out.length + L.length
  | [], out, R, _, ho, h => by
    injection h with h
    subst h
    exact ⟨ho, by simp⟩
  | p :: t, out, R, hw, ho, h => by
    unfold fixGo at h
    by_cases h0 : (fxP k p).id = 0
    · rw [if_pos h0] at h; cases h
    rw [if_neg h0] at h
    by_cases h1 : ((getL out (fxP k p).id).isSome && !oftenB (fxP k p).id k) = true
    · rw [if_pos h1] at h
      obtain ⟨q1, q2⟩ := fixGo_ok t out R (fun x hx => hw x (by simp [hx])) ho h
      exact ⟨q1, by simp; omega⟩
    · rw [if_neg h1] at h
      have hp := fxP_ok (k := k) (hw p (by simp)) h0
      obtain ⟨q1, q2⟩ := fixGo_ok t (out ++ [fxP k p]) R (fun x hx => hw x (by simp [hx])) ⟨fun x hx => by
        rcases List.mem_append.1 hx with hx | hx
        · exact ho.val x hx
        · rw [List.mem_singleton.1 hx]; exact hp, fun i hi => by
        rw [idf_append, List.length_append] at hi
        by_cases he : (fxP k p).id = i
        · by_cases ho2 : oftenB i k = true
          · exact ho2
          · exfalso
            apply h1
            rw [he, Bool.and_eq_true]
            refine ⟨(getL_idf out i).2 ?_, by simpa using ho2⟩
            rw [idf_pos he, show idf i ([] : List Pr) = [] from rfl] at hi
            simp at hi
            omega
        · rw [idf_neg he, show idf i ([] : List Pr) = [] from rfl] at hi
          exact ho.once i (by simpa using hi)⟩ h
      exact ⟨q1, by simp at q2 ⊢; omega⟩
theorem for21 : ∀ (k : Int), forB 22 k = true → forB 21 k = true := by
  intro k h
  unfold forB at h ⊢
  have e1 : kindsL 22 = kindsL 21 := by decide
  rwa [e1] at h
theorem often_no21 (k : Int) : True := trivial
theorem addM_ok {k : Int} {out : List Pr} (h : FixOk k out) : FixOk k (addM out) ∧ (addM out).length ≤ out.length + 1 ∧ ((getL (addM out) 21).isSome || !(getL (addM out) 22).isSome) = true := by
  unfold addM
  by_cases hc : ((getL out 22).isSome && !(getL out 21).isSome) = true
  · rw [if_pos hc]
    rw [Bool.and_eq_true] at hc
    have hpos := (getL_idf out 22).1 hc.1
    obtain ⟨x, hx⟩ : ∃ x, x ∈ idf 22 out := by
      cases hh : idf 22 out with
      | nil => rw [hh] at hpos; simp at hpos
      | cons x t => exact ⟨x, by simp⟩
    have hxo : x ∈ out := (List.mem_filter.1 hx).1
    have hxi : x.id = 22 := by simpa using (List.mem_filter.1 hx).2
    have hf := (h.val x hxo).2.1
    rw [hxi] at hf
    have h21 : (getL out 21).isSome = false := by simpa using hc.2
    have hz : (idf 21 out).length = 0 := by
      rcases Nat.eq_zero_or_pos (idf 21 out).length with q | q
      · exact q
      · rw [(getL_idf out 21).2 q] at h21; cases h21
    refine ⟨⟨fun p hp => ?_, fun i hi => ?_⟩, by simp, ?_⟩
    · rcases List.mem_append.1 hp with hp | hp
      · exact h.val p hp
      · rw [List.mem_singleton.1 hp]
        refine ⟨?_, for21 k hf, by decide, by decide, by have := fixS_len ⟨#[109]⟩; show (fixS ⟨#[109]⟩).size ≤ 32; omega, by show (⟨#[]⟩ : ByteArray).size ≤ 32; decide⟩
        exact fx_value 21 0 ⟨#[109]⟩ ⟨#[]⟩ (by decide) (by decide) (by decide)
    · rw [idf_append, List.length_append] at hi
      by_cases he : i = 21
      · subst he
        rw [hz, idf_pos (i := 21) (p := m21) (L := []) rfl, show idf 21 ([] : List Pr) = [] from rfl] at hi
        simp at hi
      · rw [idf_neg (p := m21) (fun e => he e.symm), show idf i ([] : List Pr) = [] from rfl] at hi
        exact h.once i (by simpa using hi)
    · rw [(getL_idf (out ++ [m21]) 21).2 (by rw [idf_append, List.length_append, idf_pos (i := 21) (p := m21) (L := []) rfl]; simp only [List.length_cons]; omega)]
      rfl
  · rw [if_neg hc]
    refine ⟨h, by omega, ?_⟩
    cases h1 : (getL out 22).isSome <;> cases h2 : (getL out 21).isSome <;> rw [h1, h2] at hc <;> simp at hc ⊢
theorem getL_ste {L M : List Pr} (h : Ste L M) (i : Nat) : (getL L i).isSome = (getL M i).isSome := by
  rw [Bool.eq_iff_iff, getL_idf, getL_idf, h i]
/-- A list in order, each property of the kind, none twice but where it may, is one that the kind may have. -/
theorem chk_srt {k : Int} : ∀ (L : List Pr) (q : Option Nat), Srt L → (∀ p ∈ L, valueB p.id p.n p.a p.b = true ∧ forB p.id k = true) → (∀ i, 2 ≤ (idf i L).length → oftenB i k = true) →
    (∀ x, q = some x → ∀ p ∈ L, x < p.id ∨ (x = p.id ∧ oftenB p.id k = true)) → chkGo k q L = true
  | [], _, _, _, _, _ => rfl
  | p :: t, q, hs, hv, ho, hq => by
    have hp := hv p (by simp)
    have hf : folB k q p.id = true := by
      cases q with
      | none => rfl
      | some x =>
        show followsB k x p.id = true
        unfold followsB
        rcases hq x rfl p (by simp) with h | ⟨h1, h2⟩
        · simp [h]
        · simp [h1, h2]
    rw [chkGo, hp.1, hp.2, hf]
    show chkGo k (some p.id) t = true
    have hs2 := List.pairwise_cons.1 hs
    refine chk_srt t (some p.id) hs2.2 (fun x hx => hv x (by simp [hx])) (fun i hi => ho i ?_) (fun x hx z hz => ?_)
    · by_cases e : p.id = i
      · rw [idf_pos e]; simp; omega
      · rw [idf_neg e]; exact hi
    · injection hx with hx
      subst hx
      have hle := hs2.1 z hz
      by_cases e : p.id = z.id
      · right
        refine ⟨e, ?_⟩
        rw [← e]
        refine ho p.id ?_
        rw [idf_pos rfl]
        have : z ∈ idf p.id t := List.mem_filter.2 ⟨hz, by simp [e]⟩
        have := List.length_pos_of_mem this
        simp
        omega
      · left; omega
theorem fix6_ok (L : List Pr) (k : Int) (hw : ∀ p ∈ L, p.n < 4294967296) : checkB k (fix6 L k) = true ∧ (fix6 L k).length ≤ 9 ∧ Srt (fix6 L k) ∧ (∀ p ∈ fix6 L k, p.ok = true ∧ p.id < 256 ∧ p.n < 4294967296 ∧ p.a.size ≤ 32 ∧ p.b.size ≤ 32) := by
  unfold fix6
  rcases hG : fixGo k [] (L.take 8) with _ | out
  · refine ⟨by simp [checkB, chkGo, getL], by simp, Srt.nil, by simp⟩
  · dsimp only
    obtain ⟨h1, h2⟩ := fixGo_ok (L.take 8) [] out (fun p hp => hw p (List.mem_of_mem_take hp)) ⟨by simp, by simp [idf]⟩ hG
    obtain ⟨g1, g2, g3⟩ := addM_ok h1
    have hlen : out.length ≤ 8 := by have := List.length_take_le 8 L; simp at h2; omega
    have hste := sortL_ste (addM out)
    refine ⟨?_, by rw [sortL_length]; omega, sortL_srt _, fun p hp => ?_⟩
    · unfold checkB
      rw [sortL_length, decide_eq_true (by omega), ← getL_ste hste 21, ← getL_ste hste 22, g3, chk_srt (sortL (addM out)) none (sortL_srt _) (fun p hp => by have := g1.val p (sortL_mem.1 hp); exact ⟨this.1, this.2.1⟩) (fun i hi => g1.once i (by rw [hste i]; exact hi)) (fun x hx => by cases hx)]
      rfl
    · have := g1.val p (sortL_mem.1 hp)
      refine ⟨?_, this.2.2⟩
      have h9 := this.1
      unfold valueB at h9
      rw [Bool.and_eq_true] at h9
      exact h9.1

end Go.Proofs.YtfcgfkgibimffaaDoor
