/-
  The codes of reason, as plain lists.
-/
import Derived.Lib.Hide
namespace Go.Proofs.Ytcacpjdmlcclkaa
set_option linter.unusedVariables false
set_option linter.unusedSimpArgs false

def sp4 (k : Int) : List (Nat × Nat) :=
  if k = 2 then [(0, 5)]
  else if k = 4 ∨ k = 5 ∨ k = 6 ∨ k = 7 ∨ k = 14 then [(0, 0)]
  else if k = 9 then [(0, 2), (128, 128)]
  else []
def sp5 (k : Int) : List (Nat × Nat) :=
  if k = 2 then [(0, 0), (128, 138), (140, 140), (144, 144), (149, 149), (151, 151), (153, 157), (159, 159)]
  else if k = 4 ∨ k = 5 then [(0, 0), (16, 16), (128, 128), (131, 131), (135, 135), (144, 145), (151, 151), (153, 153)]
  else if k = 6 ∨ k = 7 then [(0, 0), (146, 146)]
  else if k = 9 then [(0, 2), (128, 128), (131, 131), (135, 135), (143, 143), (145, 145), (151, 151), (158, 158), (161, 162)]
  else if k = 11 then [(0, 0), (17, 17), (128, 128), (131, 131), (135, 135), (143, 143), (145, 145)]
  else if k = 14 then [(0, 0), (4, 4), (128, 131), (135, 135), (137, 137), (139, 139), (141, 144), (147, 162)]
  else if k = 15 then [(0, 0), (24, 25)]
  else []
/-- The codes of a version and a kind. -/
def sp (v k : Int) : List (Nat × Nat) := if v = 4 then sp4 k else if v = 5 then sp5 k else []
def sps : List (List (Nat × Nat)) := [[], [(0, 5)], [(0, 0)], [(0, 2), (128, 128)],
  [(0, 0), (128, 138), (140, 140), (144, 144), (149, 149), (151, 151), (153, 157), (159, 159)],
  [(0, 0), (16, 16), (128, 128), (131, 131), (135, 135), (144, 145), (151, 151), (153, 153)],
  [(0, 0), (146, 146)],
  [(0, 2), (128, 128), (131, 131), (135, 135), (143, 143), (145, 145), (151, 151), (158, 158), (161, 162)],
  [(0, 0), (17, 17), (128, 128), (131, 131), (135, 135), (143, 143), (145, 145)],
  [(0, 0), (4, 4), (128, 131), (135, 135), (137, 137), (139, 139), (141, 144), (147, 162)],
  [(0, 0), (24, 25)]]
theorem sp_mem (v k : Int) : sp v k ∈ sps := by
  unfold sp sp4 sp5
  repeat' split
  all_goals decide
/-- Is a code among them? -/
def knownB (l : List (Nat × Nat)) (c : Nat) : Bool := l.any fun p => decide (p.1 ≤ c) && decide (c ≤ p.2)
/-- All of them. -/
def allL (l : List (Nat × Nat)) : List Nat := l.flatMap fun p => List.range' p.1 (p.2 + 1 - p.1)
def spOk (l : List (Nat × Nat)) : Bool := decide (l.length ≤ 9) && l.all (fun p => decide (p.1 ≤ p.2) && decide (p.2 ≤ 162))
theorem sp_ok (v k : Int) : spOk (sp v k) = true := by
  have : ∀ l ∈ sps, spOk l = true := by decide
  exact this _ (sp_mem v k)
theorem sp_len (v k : Int) : (sp v k).length ≤ 9 := by
  have h := sp_ok v k
  unfold spOk at h
  simp only [Bool.and_eq_true, decide_eq_true_eq] at h
  exact h.1
theorem sp_get (v k : Int) (i : Nat) (h : i < (sp v k).length) : (sp v k)[i].1 ≤ (sp v k)[i].2 ∧ (sp v k)[i].2 ≤ 162 := by
  have h' := sp_ok v k
  unfold spOk at h'
  simp only [Bool.and_eq_true, decide_eq_true_eq, List.all_eq_true] at h'
  exact h'.2 _ (List.getElem_mem h)
theorem all_filter (v k : Int) : allL (sp v k) = (List.range 256).filter (knownB (sp v k)) := by
  have : ∀ l ∈ sps, allL l = (List.range 256).filter (knownB l) := by decide +kernel
  exact this _ (sp_mem v k)
theorem all_len (v k : Int) : (allL (sp v k)).length ≤ 40 := by
  have : ∀ l ∈ sps, (allL l).length ≤ 40 := by decide +kernel
  exact this _ (sp_mem v k)
/-- They rise. -/
theorem rise_sps : ∀ l ∈ sps, ∀ i : Fin 40, ∀ h : i.1 + 1 < (allL l).length, (allL l)[i.1] < (allL l)[i.1 + 1] := by decide +kernel
theorem all_rise (v k : Int) (i : Nat) (h : i + 1 < (allL (sp v k)).length) : (allL (sp v k))[i] < (allL (sp v k))[i + 1] := by
  have h2 := all_len v k
  exact rise_sps _ (sp_mem v k) ⟨i, by omega⟩ h
theorem all_known (v k : Int) (i : Nat) (h : i < (allL (sp v k)).length) : knownB (sp v k) (allL (sp v k))[i] = true ∧ (allL (sp v k))[i] ≤ 162 := by
  have hm : (allL (sp v k))[i] ∈ allL (sp v k) := List.getElem_mem h
  have : ∀ l ∈ sps, ∀ c ∈ allL l, knownB l c = true ∧ c ≤ 162 := by decide +kernel
  exact this _ (sp_mem v k) _ hm
theorem known_take (l : List (Nat × Nat)) (c i : Nat) (h : i < l.length) : knownB (l.take (i + 1)) c = (knownB (l.take i) c || (decide (l[i].1 ≤ c) && decide (c ≤ l[i].2))) := by
  unfold knownB
  rw [List.take_succ_eq_append_getElem h, List.any_append]
  simp
theorem known_full (l : List (Nat × Nat)) (c i : Nat) (h : l.length ≤ i) : knownB (l.take i) c = knownB l c := by rw [List.take_of_length_le h]
theorem known_of (l : List (Nat × Nat)) (c i : Nat) (h : i < l.length) (h1 : l[i].1 ≤ c) (h2 : c ≤ l[i].2) : knownB l c = true := by
  unfold knownB
  rw [List.any_eq_true]
  exact ⟨l[i], List.getElem_mem h, by simp [h1, h2]⟩
/-- Does it say that something failed? -/
def failedB (v k : Int) (c : Nat) : Bool := knownB (sp v k) c && (decide (128 ≤ c) || (decide (v = 4) && (decide (k = 2) && !decide (c = 0))))
theorem failed_4 (k : Int) (c : Nat) (hk : k = 2) (h : knownB (sp 4 k) c = true) : failedB 4 k c = !decide (c = 0) := by
  subst hk
  unfold failedB
  rw [h]
  by_cases h0 : c = 0
  · simp [h0]
  · simp [h0]
theorem failed_else (v k : Int) (c : Nat) (hk : ¬ (v = 4 ∧ k = 2)) (h : knownB (sp v k) c = true) : failedB v k c = decide (128 ≤ c) := by
  unfold failedB
  rw [h]
  by_cases h4 : v = 4
  · by_cases h2 : k = 2
    · exact absurd ⟨h4, h2⟩ hk
    · simp [h4, h2]
  · simp [h4]
theorem failed_no (v k : Int) (c : Nat) (h : knownB (sp v k) c = false) : failedB v k c = false := by
  unfold failedB
  rw [h]
  rfl

end Go.Proofs.Ytcacpjdmlcclkaa
