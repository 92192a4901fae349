/-
  Small functions of ids, and of the document: whatever the numbers.
-/
import Derived.Test.YtlgbljohhnhhkaaIdA
namespace Go.Proofs.Ytlgbljohhnhhkaa
open Go.RowKit
set_option linter.unusedVariables false
set_option linter.unusedSimpArgs false
set_option maxRecDepth 100000

def BoolIs (b : Bool) (w : World) (e : Ending) (w' : World) : Prop := e = .returned (.bool b) ∧ w = w'
def IntIs (z : Int) (w : World) (e : Ending) (w' : World) : Prop := e = .returned (.int .i64 z) ∧ w = w'

theorem flies_any (s : Int) (w : World) : Calls Try.prog 30 #[.int .i64 s] w (BoolIs (fliB s) w) := by
  by_cases h1 : 1 ≤ s
  · by_cases h2 : s ≤ 4
    · have e : fliB s = true := by simp [fliB, h1, h2]
      rw [e]; clear e
      go_enter Try.func30, Try.ntmps30
      go_wp2
      go_ret
      exact ⟨rfl, rfl⟩
    · have e : fliB s = false := by simp [fliB, h2]
      rw [e]; clear e
      go_enter Try.func30, Try.ntmps30
      go_wp2
      go_ret
      exact ⟨rfl, rfl⟩
  · have e : fliB s = false := by simp [fliB, h1]
    rw [e]; clear e
    go_enter Try.func30, Try.ntmps30
    go_wp2
    go_ret
    exact ⟨rfl, rfl⟩

theorem counts_any (s : Int) (w : World) : Calls Try.prog 28 #[.int .i64 s] w (BoolIs (couB s) w) := by
  by_cases h1 : s = 5
  · subst h1
    go_enter Try.func28, Try.ntmps28
    go_wp2
    go_ret
    exact ⟨rfl, rfl⟩
  · have h1' : (s == 5) = false := by simpa using h1
    by_cases h2 : s = 6
    · subst h2
      go_enter Try.func28, Try.ntmps28
      go_wp2
      go_ret
      exact ⟨rfl, rfl⟩
    · have h2' : (s == 6) = false := by simpa using h2
      have e : couB s = false := by simp [couB, h1, h2]
      rw [e]; clear e
      go_enter Try.func28, Try.ntmps28
      go_wp2
      go_ret
      exact ⟨rfl, rfl⟩

theorem opens_any (s : Int) (w : World) : Calls Try.prog 23 #[.int .i64 s] w (BoolIs (opnB s) w) := by
  by_cases h1 : s = 1
  · subst h1
    go_enter Try.func23, Try.ntmps23
    go_wp2
    go_ret
    exact ⟨rfl, rfl⟩
  · have h1' : (s == 1) = false := by simpa using h1
    by_cases h2 : s = 2
    · subst h2
      go_enter Try.func23, Try.ntmps23
      go_wp2
      go_ret
      exact ⟨rfl, rfl⟩
    · have h2' : (s == 2) = false := by simpa using h2
      have e : opnB s = couB s := by simp [opnB, h1, h2]
      rw [e]; clear e
      have HC := Lib.hid (fun wx => counts_any s wx)
      generalize couB s = b at *
      go_enter Try.func23, Try.ntmps23
      go_wp2_with (go_at_call 28; refine (HC.out _).mono ?_; rintro e w' ⟨rfl, rfl⟩)
      go_ret
      exact ⟨rfl, rfl⟩

theorem fits_any (s n : Int) (w : World) : Calls Try.prog 20 #[.int .i64 s, .int .i64 n] w (BoolIs (fitB s n) w) := by
  have cF := fun wx => flies_any s wx
  have cC := fun wx => counts_any s wx
  have hx : fliB s = true → couB s = false := by
    intro h
    simp [fliB, couB] at h ⊢
    omega
  have e : fitB s n = ((fliB s && decide (n = 0)) || (couB s && decide (0 ≤ n))) := rfl
  rw [e]; clear e
  cases hf : fliB s with
  | true =>
    have hc := hx hf
    rw [hf] at cF
    rw [hc] at cC ⊢
    have HF := Lib.hid cF
    have HC := Lib.hid cC
    clear cF cC hf hc hx
    by_cases h0 : n = 0
    · subst h0
      go_enter Try.func20, Try.ntmps20
      go_wp2_with (first
        | (go_at_call 30; refine (HF.out _).mono ?_; rintro e w' ⟨rfl, rfl⟩)
        | (go_at_call 28; refine (HC.out _).mono ?_; rintro e w' ⟨rfl, rfl⟩))
      go_ret
      exact ⟨rfl, rfl⟩
    · have h0' : (n == 0) = false := by simpa using h0
      have e : decide (n = 0) = false := decide_eq_false h0
      rw [e]; clear e
      go_enter Try.func20, Try.ntmps20
      go_wp2_with (first
        | (go_at_call 30; refine (HF.out _).mono ?_; rintro e w' ⟨rfl, rfl⟩)
        | (go_at_call 28; refine (HC.out _).mono ?_; rintro e w' ⟨rfl, rfl⟩))
      go_ret
      exact ⟨rfl, rfl⟩
  | false =>
    rw [hf] at cF
    have HF := Lib.hid cF
    clear cF hf hx
    cases hc : couB s with
    | false =>
      rw [hc] at cC
      have HC := Lib.hid cC
      clear cC hc
      go_enter Try.func20, Try.ntmps20
      go_wp2_with (first
        | (go_at_call 30; refine (HF.out _).mono ?_; rintro e w' ⟨rfl, rfl⟩)
        | (go_at_call 28; refine (HC.out _).mono ?_; rintro e w' ⟨rfl, rfl⟩))
      go_ret
      exact ⟨rfl, rfl⟩
    | true =>
      rw [hc] at cC
      have HC := Lib.hid cC
      clear cC hc
      by_cases h0 : 0 ≤ n
      · have e : decide (0 ≤ n) = true := decide_eq_true h0
        rw [e]; clear e
        go_enter Try.func20, Try.ntmps20
        go_wp2_with (first
          | (go_at_call 30; refine (HF.out _).mono ?_; rintro e w' ⟨rfl, rfl⟩)
          | (go_at_call 28; refine (HC.out _).mono ?_; rintro e w' ⟨rfl, rfl⟩))
        go_ret
        exact ⟨rfl, rfl⟩
      · have e : decide (0 ≤ n) = false := decide_eq_false h0
        clear e
        go_enter Try.func20, Try.ntmps20
        go_wp2_with (first
          | (go_at_call 30; refine (HF.out _).mono ?_; rintro e w' ⟨rfl, rfl⟩)
          | (go_at_call 28; refine (HC.out _).mono ?_; rintro e w' ⟨rfl, rfl⟩))
        go_ret
        exact ⟨rfl, rfl⟩

theorem rcounts_any (s n : Int) (w : World) : Calls Try.prog 21 #[.int .i64 s, .int .i64 n] w (BoolIs (cntB s n) w) := by
  by_cases h0 : n = 0
  · subst h0
    have e : cntB s 0 = true := by simp [cntB]
    rw [e]; clear e
    go_enter Try.func21, Try.ntmps21
    go_wp2
    go_ret
    exact ⟨rfl, rfl⟩
  · have h0' : (n == 0) = false := by simpa using h0
    by_cases h1 : 0 < n
    · by_cases h2 : 5 ≤ s
      · have e : cntB s n = true := by simp [cntB, h0, h1, h2]
        rw [e]; clear e
        go_enter Try.func21, Try.ntmps21
        go_wp2
        go_ret
        exact ⟨rfl, rfl⟩
      · have e : cntB s n = false := by simp [cntB, h0, h1, h2]
        rw [e]; clear e
        go_enter Try.func21, Try.ntmps21
        go_wp2
        go_ret
        exact ⟨rfl, rfl⟩
    · have e : cntB s n = false := by simp [cntB, h0, h1]
      rw [e]; clear e
      go_enter Try.func21, Try.ntmps21
      go_wp2
      go_ret
      exact ⟨rfl, rfl⟩

theorem kind_cases (k : Int) : (k = 4 ∨ k = 5 ∨ k = 6 ∨ k = 7 ∨ k = 9 ∨ k = 11) ∨ (ansZ k = 0 ∧ (k == 4) = false ∧ (k == 5) = false ∧ (k == 6) = false ∧ (k == 7) = false ∧ (k == 9) = false ∧ (k == 11) = false) := by
  by_cases h4 : k = 4
  · exact .inl (.inl h4)
  by_cases h5 : k = 5
  · exact .inl (.inr (.inl h5))
  by_cases h6 : k = 6
  · exact .inl (.inr (.inr (.inl h6)))
  by_cases h7 : k = 7
  · exact .inl (.inr (.inr (.inr (.inl h7))))
  by_cases h9 : k = 9
  · exact .inl (.inr (.inr (.inr (.inr (.inl h9)))))
  by_cases h11 : k = 11
  · exact .inl (.inr (.inr (.inr (.inr (.inr h11)))))
  · exact .inr ⟨by simp [ansZ, h4, h5, h6, h7, h9, h11], by simpa using h4, by simpa using h5, by simpa using h6, by simpa using h7, by simpa using h9, by simpa using h11⟩
theorem answered_any (k : Int) (w : World) : Calls Try.prog 27 #[.int .i64 k] w (IntIs (ansZ k) w) := by
  rcases kind_cases k with (rfl | rfl | rfl | rfl | rfl | rfl) | ⟨e, h4, h5, h6, h7, h9, h11⟩
  case inr => 
    rw [e]
    go_enter Try.func27, Try.ntmps27
    go_wp2
    go_ret
    exact ⟨rfl, rfl⟩
  all_goals
    go_enter Try.func27, Try.ntmps27
    go_wp2
    go_ret
    exact ⟨rfl, rfl⟩
theorem follows_any (k : Int) (f : Bool) (w : World) : Calls Try.prog 29 #[.int .i64 k, .bool f] w (IntIs (folZ k f) w) := by
  by_cases h5 : k = 5
  · subst h5
    cases f
    all_goals
      go_enter Try.func29, Try.ntmps29
      go_wp2
      go_ret
      exact ⟨rfl, rfl⟩
  · have h5' : (k == 5) = false := by simpa using h5
    by_cases h6 : k = 6
    · subst h6
      go_enter Try.func29, Try.ntmps29
      go_wp2
      go_ret
      exact ⟨rfl, rfl⟩
    · have h6' : (k == 6) = false := by simpa using h6
      have e : folZ k f = 0 := by simp [folZ, h5, h6]
      rw [e]; clear e
      go_enter Try.func29, Try.ntmps29
      go_wp2
      go_ret
      exact ⟨rfl, rfl⟩

end Go.Proofs.Ytlgbljohhnhhkaa
