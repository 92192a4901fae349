/-
  What a loop over Each tells of the bytes: plain, no program.
-/
import Derived.Test.YtfhcmmmgnkinoaaDoorPxN
namespace Go.Proofs.YtfhcmmmgnkinoaaDoor
open Go.RowKit
set_option linter.unusedVariables false
set_option linter.unusedSimpArgs false

/-- What the law's own each answers, of at most m: the properties, and whether all was well. -/
def eachM (l : List UInt8) (m : Nat) : List Pr × Bool := if (eachL l).1.length ≤ m then eachL l else ((eachL l).1.take m, true)
theorem seq_lt (l : List UInt8) (i : Nat) (h : i < (eachL l).1.length) : (seqL l)[i]? = some ((eachL l).1[i], true) := by
  unfold seqL
  rw [List.getElem?_append_left (by simpa using h)]
  simp [List.getElem?_eq_getElem h]
theorem seq_at (l : List UInt8) : (seqL l)[(eachL l).1.length]? = if (eachL l).2 then none else some (Pr.zero, false) := by
  unfold seqL
  rw [List.getElem?_append_right (by simp)]
  simp
  split <;> simp
theorem seq_len (l : List UInt8) : (seqL l).length = (eachL l).1.length + (if (eachL l).2 then 0 else 1) := by
  unfold seqL
  simp
  split <;> simp
theorem seq_all {l : List UInt8} (h : ∀ x ∈ seqL l, x.2 = true) : (eachL l).2 = true ∧ (seqL l).map Prod.fst = (eachL l).1 := by
  have h1 : (eachL l).2 = true := by
    cases hk : (eachL l).2 with
    | true => rfl
    | false =>
      have := h (Pr.zero, false) (by unfold seqL; rw [hk]; simp)
      cases this
  refine ⟨h1, ?_⟩
  unfold seqL
  rw [h1]
  simp [Function.comp_def]
theorem eachM_done {l : List UInt8} {m : Nat} (h : ∀ x ∈ seqL l, x.2 = true) (hm : (seqL l).length ≤ m) : eachM l m = ((seqL l).map Prod.fst, true) := by
  obtain ⟨h1, h2⟩ := seq_all h
  have hl : (eachL l).1.length ≤ m := by rw [← h2]; simpa using hm
  unfold eachM
  rw [if_pos hl, h2, ← h1]
theorem eachM_stop {l : List UInt8} {m : Nat} {d : List (Pr × Bool)} {x : Pr × Bool} (hp : d ++ [x] <+: seqL l) (hd : ∀ y ∈ d, y.2 = true) (hdm : d.length ≤ m) (hx : x.2 = true → d.length = m) : eachM l m = (d.map Prod.fst, x.2) := by
  have hlen := hp.length_le
  have hget : ∀ i, i < (d ++ [x]).length → (seqL l)[i]? = (d ++ [x])[i]? := fun i hi => by
    obtain ⟨t, ht⟩ := hp
    rw [← ht, List.getElem?_append_left hi]
  have hxat : (seqL l)[d.length]? = some x := by rw [hget _ (by simp)]; simp
  have hsl := seq_len l
  have hdi : ∀ i (h : i < d.length), (seqL l)[i]? = some d[i] := fun i h => by rw [hget _ (by simp; omega), List.getElem?_append_left h, List.getElem?_eq_getElem h]
  have hdl : d.length ≤ (eachL l).1.length := by
    rcases Nat.lt_or_ge (eachL l).1.length d.length with h | h
    · have h1 := hdi _ h
      rw [seq_at] at h1
      split at h1
      · cases h1
      · have := hd _ (List.getElem_mem h)
        injection h1 with h1
        rw [← h1] at this
        cases this
    · exact h
  have hmap : d.map Prod.fst = (eachL l).1.take d.length := by
    refine List.ext_getElem (by simp; omega) fun i h1 h2 => ?_
    have hi : i < d.length := by simpa using h1
    have h3 := hdi i hi
    rw [seq_lt l i (by omega)] at h3
    injection h3 with h3
    simp [← h3]
  rcases hxv : x.2 with _ | _
  · -- it broke off
    have he : d.length = (eachL l).1.length := by
      rcases Nat.lt_or_ge d.length (eachL l).1.length with h | h
      · rw [seq_lt l _ h] at hxat
        injection hxat with hxat
        rw [← hxat] at hxv
        cases hxv
      · omega
    have h2 : (eachL l).2 = false := by
      rw [he, seq_at] at hxat
      split at hxat
      · cases hxat
      · rename_i h; simpa using h
    unfold eachM
    rw [if_pos (by omega), hmap, he, List.take_length, ← h2]
  · have hm := hx hxv
    have hlt : d.length < (eachL l).1.length := by
      rcases Nat.lt_or_ge d.length (eachL l).1.length with h | h
      · exact h
      · have he : d.length = (eachL l).1.length := by omega
        rw [he, seq_at] at hxat
        split at hxat
        · cases hxat
        · injection hxat with hxat
          rw [← hxat] at hxv
          cases hxv
    unfold eachM
    rw [if_neg (by omega), hmap, hm]

end Go.Proofs.YtfhcmmmgnkinoaaDoor
