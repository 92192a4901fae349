/-
  The law's own small example of wire: it is told.
-/
import Derived.Test.YtfkddmdoepiikaaRvar
namespace Go.Proofs.Ytfkddmdoepiikaa
open Go.RowKit
set_option linter.unusedVariables false
set_option linter.unusedSimpArgs false

theorem told1_var (w : World) : Calls Try.prog 29 #[.slice none 0 0, .int .u32 321] w (Lays w [193, 2]) := by
  have h := var_any none 0 [] 321 w (by omega) (Row.nil _ _) (by simp) (by simp)
  have e : ([] : List UInt8) ++ var7 321 = [193, 2] := by rw [var7_ge (by decide), var7_lt (by decide)]; decide
  rw [e] at h
  exact h
theorem told1_bin (w : World) (g c : Nat) (hr : Row w (some ⟨g, 0, none⟩) (B8 [193, 2])) : Calls Try.prog 31 #[.slice (some ⟨g, 0, none⟩) 2 c, .string ⟨#[97, 98]⟩] w (Lays w [193, 2, 0, 2, 97, 98]) := by
  have h := bin_any (some ⟨g, 0, none⟩) c [193, 2] ⟨#[97, 98]⟩ w (by decide) hr (by simp) (by simp)
  have e : ([193, 2] : List UInt8) ++ byteOf ((ByteArray.mk #[97, 98]).size / 256) :: byteOf ((ByteArray.mk #[97, 98]).size % 256) :: (ByteArray.mk #[97, 98]).data.toList = [193, 2, 0, 2, 97, 98] := by decide
  rw [e] at h
  exact h
theorem told1_size (w : World) : Calls Try.prog 33 #[.int .u32 321] w fun e w' => e = .returned (.int .i64 2) ∧ w = w' := by
  have h := varsize_any 321 w (by omega) (by omega)
  simpa using h
theorem told1_read (w : World) (g c : Nat) (hr : Row w (some ⟨g, 0, none⟩) (B8 [193, 2, 0, 2, 97, 98])) :
    Calls Try.prog 8 #[.slice (some ⟨g, 0, none⟩) 6 c] w fun e w' => ∃ r, e = .returned (.pointer (some ⟨r, 0, none⟩)) ∧ w.heap.size ≤ r ∧ Rdr w' r [193, 2, 0, 2, 97, 98] 0 ∧ Kept No w w' :=
  read_any (some ⟨g, 0, none⟩) c [193, 2, 0, 2, 97, 98] w hr (by simp) (by simp)
theorem told1_rvar (w : World) (r : Nat) (h : Rdr w r [193, 2, 0, 2, 97, 98] 0) :
    Calls Try.prog 14 #[.pointer (some ⟨r, 0, none⟩)] w fun e w' => e = .returned (.int .u32 321) ∧ After w w' r [0, 2, 97, 98] 0 := by
  have h1 := rvar_any w r _ _ h
  have e : rv 4 0 0 [193, 2, 0, 2, 97, 98] 0 = (321, [0, 2, 97, 98], 0) := by decide
  rw [e] at h1
  exact h1
theorem told1_rbin (w : World) (r : Nat) (h : Rdr w r [0, 2, 97, 98] 0) :
    Calls Try.prog 16 #[.pointer (some ⟨r, 0, none⟩)] w fun e w' => e = .returned (.string ⟨#[97, 98]⟩) ∧ After w w' r [] 0 := by
  have h1 := rbin_any w r _ _ h
  have e1 : binTaken [0, 2, 97, 98] 0 = [97, 98] := by decide
  have e2 : binL [0, 2, 97, 98] 0 = [] := by decide
  have e3 : binE [0, 2, 97, 98] 0 = 0 := by decide
  rw [e1, e2, e3] at h1
  exact h1

set_option maxHeartbeats 1000000 in
theorem told1_any (w : World) : Calls Try.prog 9 #[] w fun e w' => e = .returned (.bool true) ∧ Kept No w w' := by
  go_enter Try.func9, Try.ntmps9
  go_wp2_with (first
    | (go_at_call 29; refine (told1_var _).mono ?_; rintro e w1 ⟨g1, c1, rfl, hg1, hown1, hk1⟩)
    | (go_at_call 31; refine (told1_bin _ g1 c1 (.of_own hown1)).mono ?_; rintro e w2 ⟨g2, c2, rfl, hg2, hown2, hk2⟩)
    | (go_at_call 8; refine (told1_read _ g2 c2 (.of_own hown2)).mono ?_; rintro e w3 ⟨r, rfl, hr, hrd, hk3⟩; have hcv : (convert 22 9 (.slice (some ⟨g2, 0, none⟩) 6 c2)).run Try.prog w3 = .ok (.string ⟨#[193, 2, 0, 2, 97, 98]⟩) w3 := row_str (P := Try.prog) 22 9 5 Try.underlying22 Try.underlying5 Try.underlying9 ((Row.of_own hown2).keptNo hk3) c2 (by simp))
    | (go_at_call 14; refine (told1_rvar _ r hrd).mono ?_; rintro e w4 ⟨rfl, ha4⟩)
    | (go_at_call 16; refine (told1_rbin _ r ha4.rdr).mono ?_; rintro e w5 ⟨rfl, ha5⟩)
    | (go_at_call 22; refine (left_any _ r _ _ ha5.rdr).mono ?_; rintro e w6 ⟨rfl, rfl⟩)
    | (go_at_call 24; refine (err_any _ r _ _ ha5.rdr).mono ?_; rintro e w7 ⟨rfl, rfl⟩)
    | (go_at_call 33; refine (told1_size _).mono ?_; rintro e w8 ⟨rfl, rfl⟩))
  go_ret
  have hz1 := hk1.size
  have hz2 := hk2.size
  have hno : ∀ i, i < w.heap.size → One r i → No i := fun i hi h => by have : i = r := h; omega
  exact ⟨rfl, (((hk1.trans hk2).trans hk3).then ha4.kept hno).then ha5.kept hno⟩

end Go.Proofs.Ytfkddmdoepiikaa
