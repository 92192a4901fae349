/-
  Contracts of package text and of the document's own text (pouchref02).
-/
import Derived.Test.YtjihgcdhheoniaaDoorBase
import Derived.Test.YtjihgcdhheoniaaDoorUtf
import Derived.Test.YtjihgcdhheoniaaDoorChecked
namespace Go.Proofs.YtjihgcdhheoniaaDoor
open Go.RowKit
set_option linter.unusedVariables false
set_option linter.unusedSimpArgs false

def SignIs (z : Nat) (w : World) (e : Ending) (w' : World) : Prop := (∃ n : Int, e = .returned (.tuple #[.int .i64 n, .int .i64 z])) ∧ w = w'
theorem sz_list (B : ByteArray) : B.data.toList.length = B.size := by rw [Array.length_toList]; rfl
theorem get_at (s : ByteArray) (k : Nat) (h : k < s.size) : s.data.toList.getD k 0 = s[k] := by
  rw [List.getD_eq_getElem?_getD, List.getElem?_eq_getElem (by rw [sz_list]; exact h)]
  rfl
theorem drop_getD (l : List UInt8) (a i : Nat) : (l.drop a).getD i 0 = l.getD (a + i) 0 := by simp [List.getD_eq_getElem?_getD, List.getElem?_drop]
/-- The sign at a place of s. -/
def sgAt (s : ByteArray) (k : Nat) : Nat := sgL (s.data.toList.drop k)
theorem sgAt_N (s : ByteArray) (k : Nat) (h : k < s.size) : sgAt s k = sgN (s.size - k) (s.data.toList.getD k 0).toNat (s.data.toList.getD (k + 1) 0).toNat (s.data.toList.getD (k + 2) 0).toNat (s.data.toList.getD (k + 3) 0).toNat := by
  unfold sgAt
  rw [sgL_N _ (by intro h0; have := congrArg List.length h0; rw [List.length_drop, sz_list] at this; simp at this; omega)]
  simp only [drop_getD, List.length_drop, sz_list, Nat.add_zero]

end Go.Proofs.YtjihgcdhheoniaaDoor
