/-
  Levels, names, filters: plain lists of bytes.
-/
import Derived.Lib.SplitLaws
import Derived.Lib.Split
import Derived.Lib.IndexBytes
import Derived.Lib.Hide
namespace Go.Proofs.YtlgbljohhnhhkaaDoor
set_option linter.unusedVariables false
set_option linter.unusedSimpArgs false

/-- What stands between slashes. -/
def lev : List UInt8 → List (List UInt8)
  | [] => [[]]
  | b :: t => if b = 47 then [] :: lev t else match lev t with
    | [] => [[b]]
    | h :: r => (b :: h) :: r
theorem lev_none (p : List UInt8) (h : 47 ∉ p) : lev p = [p] := by
  induction p with
  | nil => rfl
  | cons b t ih =>
    have hb : ¬ b = 47 := fun e => h (by simp [e])
    rw [lev, if_neg hb, ih (fun hm => h (List.mem_cons_of_mem _ hm))]
theorem lev_app (p q : List UInt8) (h : 47 ∉ p) : lev (p ++ 47 :: q) = p :: lev q := by
  induction p with
  | nil => rw [List.nil_append, lev, if_pos rfl]
  | cons b t ih =>
    have hb : ¬ b = 47 := fun e => h (by simp [e])
    rw [List.cons_append, lev, if_neg hb, ih (fun hm => h (List.mem_cons_of_mem _ hm))]
theorem lev_ne (l : List UInt8) : lev l ≠ [] := by
  cases l with
  | nil => simp [lev]
  | cons b t =>
    rw [lev]
    split
    · simp
    · split <;> simp
theorem lev_len (l : List UInt8) : (lev l).length ≤ l.length + 1 := by
  induction l with
  | nil => simp [lev]
  | cons b t ih =>
    rw [lev]
    split
    · simp; omega
    · split
      · simp
      · rename_i e; rw [e] at ih; simp at ih ⊢; omega
theorem lev_mem (l x : List UInt8) (h : x ∈ lev l) : x.length ≤ l.length := by
  induction l generalizing x with
  | nil => simp [lev] at h; simp [h]
  | cons b t ih =>
    rw [lev] at h
    split at h
    · rcases List.mem_cons.1 h with rfl | h
      · simp
      · have := ih x h; simp; omega
    · split at h
      · simp at h; simp [h]
      · rename_i e
        rcases List.mem_cons.1 h with rfl | h
        · rename_i hh rr; have := ih hh (by rw [e]; simp); simp; omega
        · have := ih x (by rw [e]; simp [h]); simp; omega
theorem indexByte_hit (c : UInt8) : ∀ (l : List UInt8) (i : Nat), Lib.indexByte l c = i → c ∉ l.take i ∧ l = l.take i ++ c :: l.drop (i + 1) := by
  intro l
  induction l with
  | nil => intro i h; simp [Lib.indexByte] at h
  | cons b t ih =>
    intro i h
    unfold Lib.indexByte at h
    by_cases hb : b = c
    · rw [if_pos (by simpa using hb)] at h
      have : i = 0 := by omega
      subst this hb
      simp
    · rw [if_neg (by simpa using hb)] at h
      split at h
      · omega
      · obtain ⟨i', rfl⟩ : ∃ i', i = i' + 1 := ⟨i - 1, by
          rename_i hm
          have : Lib.indexByte t c ≠ -1 := by simpa using hm
          by_cases h0 : i = 0
          · subst h0; exact absurd (by omega) this
          · omega⟩
        have := ih i' (by omega)
        refine ⟨by simp [this.1]; exact fun e => hb e.symm, ?_⟩
        simp only [List.take_succ_cons, List.drop_succ_cons, List.cons_append]
        rw [← this.2]
theorem indexByte_miss (c : UInt8) (l : List UInt8) : Lib.indexByte l c = -1 ↔ c ∉ l := by
  induction l with
  | nil => simp [Lib.indexByte]
  | cons b t ih =>
    unfold Lib.indexByte
    by_cases hb : b = c
    · simp [hb]
    · rw [if_neg (by simpa using hb)]
      by_cases hm : Lib.indexByte t c = -1
      · rw [if_pos (by simpa using hm)]
        have := ih.1 hm
        simp [this]
        exact fun e => hb e.symm
      · rw [if_neg (by simpa using hm)]
        have h1 : c ∈ t := Decidable.of_not_not fun h => hm (ih.2 h)
        constructor
        · intro h
          rw [← Lib.index_one] at h
          have := Lib.index_ge t [c]
          omega
        · intro h; simp [h1] at h
theorem splitK_lev : ∀ (k : Nat) (l : List UInt8), l.count 47 ≤ k → Lib.splitK [47] 0 k l = lev l := by
  intro k
  induction k with
  | zero =>
    intro l h
    have hn : 47 ∉ l := List.count_eq_zero.1 (by omega)
    rw [lev_none l hn]
    rfl
  | succ k ih =>
    intro l h
    unfold Lib.splitK
    rw [Lib.index_one]
    by_cases hm : Lib.indexByte l 47 = -1
    · rw [if_pos (by simpa using hm), lev_none l ((indexByte_miss 47 l).1 hm)]
    · rw [if_neg (by simpa using hm)]
      have hge := Lib.index_ge l [47]
      rw [Lib.index_one] at hge
      obtain ⟨i, hi⟩ : ∃ i : Nat, Lib.indexByte l 47 = i := ⟨(Lib.indexByte l 47).toNat, by omega⟩
      obtain ⟨h1, h2⟩ := indexByte_hit 47 l i hi
      rw [hi, Int.toNat_natCast]
      have hc : (l.drop (i + 1)).count 47 ≤ k := by
        have : l.count 47 = (l.take i).count 47 + (1 + (l.drop (i + 1)).count 47) := by
          conv => lhs; rw [h2]
          rw [List.count_append, List.count_cons]
          simp; omega
        omega
      rw [show i + ([47] : List UInt8).length = i + 1 from rfl, Nat.add_zero, ih _ hc]
      conv => rhs; rw [h2]
      rw [lev_app _ _ h1]

/-- What a share is of, and whose: behind its word. -/
def whoL (r : List UInt8) : List UInt8 := r.takeWhile (· != 47)
def whatL (r : List UInt8) : List UInt8 := (r.dropWhile (· != 47)).drop 1
theorem who_app (p q : List UInt8) (h : 47 ∉ p) : whoL (p ++ 47 :: q) = p ∧ whatL (p ++ 47 :: q) = q := by
  have hp : ∀ a ∈ p, (a != 47) = true := fun a ha => by
    have : a ≠ 47 := fun e => h (by rw [← e]; exact ha)
    simpa using this
  constructor
  · unfold whoL
    rw [List.takeWhile_append_of_pos hp]
    simp
  · unfold whatL
    rw [List.dropWhile_append_of_pos hp]
    simp
theorem who_none (p : List UInt8) (h : 47 ∉ p) : whoL p = p ∧ whatL p = [] := by
  have hp : ∀ a ∈ p, (a != 47) = true := fun a ha => by
    have : a ≠ 47 := fun e => h (by rw [← e]; exact ha)
    simpa using this
  constructor
  · unfold whoL
    have := List.takeWhile_append_of_pos (l₂ := []) hp
    simpa using this
  · unfold whatL
    have := List.dropWhile_append_of_pos (l₂ := []) hp
    simp at this
    rw [this]
    rfl
theorem cut_eq (l : List UInt8) : Lib.cut l [47] = (whoL l, whatL l, l.contains 47) := by
  unfold Lib.cut
  rw [Lib.index_one]
  by_cases hm : Lib.indexByte l 47 = -1
  · have hn := (indexByte_miss 47 l).1 hm
    rw [if_neg (by omega), (who_none l hn).1, (who_none l hn).2]
    simp [hn]
  · have hge := Lib.index_ge l [47]
    rw [Lib.index_one] at hge
    obtain ⟨i, hi⟩ : ∃ i : Nat, Lib.indexByte l 47 = i := ⟨(Lib.indexByte l 47).toNat, by omega⟩
    obtain ⟨h1, h2⟩ := indexByte_hit 47 l i hi
    have hw := who_app _ (l.drop (i + 1)) h1
    rw [← h2] at hw
    have hmem : 47 ∈ l := by rw [h2]; simp
    rw [if_pos (by omega), hi, Int.toNat_natCast, hw.1, hw.2]
    simp [hmem]

end Go.Proofs.YtlgbljohhnhhkaaDoor
