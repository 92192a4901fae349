/-
  The property that Fix makes, as plain lists.
-/
import Derived.Test.YtlabkbdnknmngaaDoorPrp
import Derived.Test.YtlabkbdnknmngaaDoorMade
import Derived.Test.YtlabkbdnknmngaaDoorFix
namespace Go.Proofs.YtlabkbdnknmngaaDoor
open Go.RowKit
set_option linter.unusedVariables false
set_option linter.unusedSimpArgs false

/-- All ids. -/
def idsC : List Nat := [1, 2, 3, 8, 9, 11, 17, 18, 19, 21, 22, 23, 24, 25, 26, 28, 31, 33, 34, 35, 36, 37, 38, 39, 40, 41, 42]
def bl (l : List Nat) : List UInt8 := l.map UInt8.ofNat
theorem bl_append (l m : List Nat) : bl (l ++ m) = bl l ++ bl m := by simp [bl]
theorem bl_one (c : Nat) (h : c < 256) : B8 (bl [c]) = [.int .u8 c] := by
  simp [bl, B8, UInt8.toNat_ofNat_of_lt' (show c < UInt8.size from h)]
/-- Those that a kind may have, of the first j. -/
def idsT (k : Int) (j : Nat) : List Nat := (idsC.take j).filter fun i => forB i k
def idsL (k : Int) : List Nat := idsC.filter fun i => forB i k
theorem idsT_yes (k : Int) (j : Nat) (h : j < idsC.length) (hY : forB idsC[j] k = true) : idsT k (j + 1) = idsT k j ++ [idsC[j]] := by
  unfold idsT
  rw [List.take_succ_eq_append_getElem h, List.filter_append]
  simp [hY]
theorem idsT_no (k : Int) (j : Nat) (h : j < idsC.length) (hN : forB idsC[j] k = false) : idsT k (j + 1) = idsT k j := by
  unfold idsT
  rw [List.take_succ_eq_append_getElem h, List.filter_append]
  simp [hN]
theorem idsT_all (k : Int) : idsT k 27 = idsL k := rfl
theorem idsT_len (k : Int) (j : Nat) : (idsT k j).length ≤ j := Nat.le_trans (List.length_filter_le _ _) (List.length_take_le _ _)
theorem idsC_fin : ∀ i ∈ idsC, 0 < i ∧ i < 256 ∧ 1 ≤ typL i ∧ typL i ≤ 7 := by decide +kernel
theorem idsL_mem {k : Int} {i : Nat} (h : i ∈ idsL k) : 0 < i ∧ i < 256 ∧ 1 ≤ typL i ∧ typL i ≤ 7 ∧ forB i k = true := by
  obtain ⟨h1, h2⟩ := List.mem_filter.1 h
  have := idsC_fin i h1
  exact ⟨this.1, this.2.1, this.2.2.1, this.2.2.2, h2⟩
theorem idsL_nil : ∀ k ∈ ([1, 2, 3, 4, 5, 6, 7, 8, 9, 10, 11, 12, 13, 14, 15, 16] : List Int), (idsL k = []) = (k = 12 ∨ k = 13) := by
  have h : ∀ k ∈ ([1, 2, 3, 4, 5, 6, 7, 8, 9, 10, 11, 12, 13, 14, 15, 16] : List Int), (idsL k).isEmpty = (decide (k = 12) || decide (k = 13)) := by decide +kernel
  intro k hk
  have := h k hk
  apply propext
  rw [← List.isEmpty_iff, this]
  simp

def fxN (q n : Nat) : Nat :=
  if typL q = 1 then n % 2 else if typL q = 2 then 1 + n % 65535 else if typL q = 3 then (if q = 39 ∧ n = 0 then 7 else n) else if typL q = 4 then 1 + n % 268435455 else 0
def cut9 (a : ByteArray) : ByteArray := a.extract 0 (min a.size 9)
def fxA (q : Nat) (a : ByteArray) : ByteArray :=
  if typL q = 5 then (if q = 8 then tfixS a else fixS a) else if typL q = 6 then cut9 a else if typL q = 7 then fixS a else ⟨#[]⟩
def fxB (q : Nat) (b : ByteArray) : ByteArray := if typL q = 7 then fixS b else ⟨#[]⟩
/-- Which. -/
def fxId (id : Nat) (k : Int) : Nat := (idsL k).getD (id % (idsL k).length) 0
def fxV (q n : Nat) (a b : ByteArray) : Value := .agg #[.int .u8 q, .int .u32 (fxN q n), .string (fxA q a), .string (fxB q b)]
theorem fxV_zero (n : Nat) (a b : ByteArray) : fxV 0 n a b = .agg #[.int .u8 0, .int .u32 0, .string ⟨#[]⟩, .string ⟨#[]⟩] := rfl

end Go.Proofs.YtlabkbdnknmngaaDoor
