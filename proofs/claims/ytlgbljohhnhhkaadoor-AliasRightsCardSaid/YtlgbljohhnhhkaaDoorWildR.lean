/-
  strings.IndexRune among the two wildcards, of what is no ASCII sign.
-/
import Derived.Test.YtlgbljohhnhhkaaDoorWild
import Derived.WalkMore
namespace Go.Proofs.YtlgbljohhnhhkaaDoor
open Go.RowKit
set_option linter.unusedVariables false
set_option linter.unusedSimpArgs false

set_option maxRecDepth 1000000 in
set_option maxHeartbeats 1000000 in
theorem indexRune_err (w : World) : Calls Tryd.prog 42 #[.string ⟨#[43, 35]⟩, .int .i32 65533] w fun e w' => e = .returned (.int .i64 (-1)) ∧ Kept No w w' := by
  have h0 := fun ty => run_next_ascii (P := Tryd.prog) w ⟨#[43, 35]⟩ 0 ty (by decide) (by decide)
  have h1 := fun ty => run_next_ascii (P := Tryd.prog) w ⟨#[43, 35]⟩ 1 ty (by decide) (by decide)
  have h2 := fun ty => run_next_end (P := Tryd.prog) w ⟨#[43, 35]⟩ 2 ty (by decide)
  have e0 : (((⟨#[43, 35]⟩ : ByteArray)[0]'(by decide)).toNat : Int) = 43 := by decide
  have e1 : (((⟨#[43, 35]⟩ : ByteArray)[1]'(by decide)).toNat : Int) = 35 := by decide
  rw [e0] at h0
  rw [e1] at h1
  clear e0 e1
  go_enter Tryd.func42, Tryd.ntmps42
  go_wp2
  refine wp_loop_rounds 3 ?_
  repeat (rw [rounds_succ]; go_wp2)
  go_ret
  exact ⟨rfl, (Kept.refl No w).alloc _⟩

set_option maxRecDepth 1000000 in
set_option maxHeartbeats 1000000 in
theorem indexRune_high (r : Nat) (w : World) (h1 : 128 ≤ r) (h2 : Lib.validRune r = true) (h3 : r ≠ 65533) : Calls Tryd.prog 42 #[.string ⟨#[43, 35]⟩, .int .i32 r] w fun e w' => e = .returned (.int .i64 (-1)) ∧ Kept No w w' := by
  have hr : ((r : Int) == 65533) = false := by simp; omega
  have h1z : (128 : Int) ≤ r := by omega
  have hv : Utf8.valid r = true := by
    unfold Lib.validRune at h2
    simp at h2
    simp [Utf8.valid]
    omega
  have he := encode_facts (r : Int) hv h1z
  have HV := Lib.hid h2
  clear h2 h3 hv
  generalize hR : Utf8.encode (r : Int) = R at *
  obtain ⟨he1, he2, he3⟩ := he
  rcases (show R.size = 2 ∨ 3 ≤ R.size from by omega) with hz | hz
  · have hlt : 1 < R.size := by omega
    have hL : 128 ≤ (R[1]'hlt).toNat := by
      have := he3 (by omega)
      have e : R.size - 1 = 1 := by omega
      simp only [e] at this
      exact this
    have hne : ((35 : Int) != ((R[1]'hlt).toNat : Int)) = true := by simp; omega
    have hltI : (1 : Int) < R.size := by omega
    have he35 : (((⟨#[43, 35]⟩ : ByteArray)[1]'(by decide)).toNat : Int) = 35 := by decide
    clear he3 he1 he2
    go_enter Tryd.func42, Tryd.ntmps42
    go_wp2_with (go_at_call 46; refine (Tryd.utf8_ValidRune _ _).mono ?_; rintro e w' ⟨rfl, hw⟩; rw [hw, HV.out])
    go_step3
    go_wp2
    refine wp_loop_rounds 1 ?_
    rw [rounds_succ]
    go_wp2
    go_step3
    go_wp2
    go_quiet (fail)
    go_wp2
    have hkq := (Kept.refl No w).drewN nq
    generalize w.drewN nq = wq at *
    go_quiet ((go_at_call 31; exact Calls.quiet_of_same (Tryd.strings_IndexByte _ _ _)))
    go_wp2
    simp only [go_sem]
    go_ret
    exact ⟨rfl, hkq.drewN _⟩
  · have hlast : ((2 : Int) ≤ (R.size : Int) - 1) := by omega
    clear he3 he1
    go_enter Tryd.func42, Tryd.ntmps42
    go_wp2_with (go_at_call 46; refine (Tryd.utf8_ValidRune _ _).mono ?_; rintro e w' ⟨rfl, hw⟩; rw [hw, HV.out])
    go_step3
    go_wp2
    refine wp_loop_rounds 1 ?_
    rw [rounds_succ]
    go_wp2
    try rw [Exit.noGoto_ret]
    go_ret
    exact ⟨rfl, Kept.refl _ _⟩

end Go.Proofs.YtlgbljohhnhhkaaDoor
