/-
  strings.ContainsAny at two wildcards, whatever the bytes.
-/
import Derived.Test.YtlgbljohhnhhkaaDoorTextR
import Derived.Lib.DecodeN
import Derived.Laws.RangeAny
import Derived.Lib.OthersKept
import Derived.Lib.IndexAny
import Derived.Laws.Runes
import Derived.Lib.RuneBytes
import Derived.Deep.LoopGhost
import Derived.Deep.QuietTactic
import Derived.BigQuiet
import Derived.Shelf.Strings.IndexAnyAll
namespace Go.Proofs.YtlgbljohhnhhkaaDoor
open Go.RowKit
set_option linter.unusedVariables false
set_option linter.unusedSimpArgs false

/-- What is decoded where a byte is no ASCII one: no ASCII sign, and of bytes that are none. -/
def HighAt (s : ByteArray) (i : Nat) : Prop :=
  128 ≤ (Utf8.decode s i).1 ∧ (Lib.validRune (Utf8.decode s i).1 = true) ∧ 1 ≤ (Utf8.decode s i).2 ∧ i + (Utf8.decode s i).2 ≤ s.size ∧ ∀ j, i ≤ j → j < i + (Utf8.decode s i).2 → ∀ b, s.data.toList[j]? = some b → 128 ≤ b.toNat
theorem get_bang (s : ByteArray) (j : Nat) (b : UInt8) (h : s.data.toList[j]? = some b) : (s.get! j).toNat = b.toNat := by
  rw [← Lib.getD_get!']
  rw [List.getD_eq_getElem?_getD, h]
  rfl
theorem high_at (s : ByteArray) (i : Nat) (h : i < s.size) (h8 : 128 ≤ (s.get! i).toNat) : HighAt s i := by
  unfold HighAt
  rw [Lib.decode_at]
  have g1 := get_bang s
  generalize hb0 : (s.get! i).toNat = b0 at *
  generalize hb1 : (s.get! (i + 1)).toNat = b1 at *
  generalize hb2 : (s.get! (i + 2)).toNat = b2 at *
  generalize hb3 : (s.get! (i + 3)).toNat = b3 at *
  have u1 : b1 < 256 := by rw [← hb1]; exact byte_lt _
  have u0 : b0 < 256 := by rw [← hb0]; exact byte_lt _
  have one : ∀ j, i ≤ j → j < i + 1 → ∀ b, s.data.toList[j]? = some b → 128 ≤ b.toNat := by
    intro j h1 h2 b hb
    obtain rfl : j = i := by omega
    rw [← g1 _ _ hb, hb0]; exact h8
  have two : b1 / 64 = 2 → ∀ j, i ≤ j → j < i + 2 → ∀ b, s.data.toList[j]? = some b → 128 ≤ b.toNat := by
    intro hc j h1 h2 b hb
    rcases (show j = i ∨ j = i + 1 from by omega) with rfl | rfl
    · rw [← g1 _ _ hb, hb0]; exact h8
    · rw [← g1 _ _ hb, hb1]; omega
  have three : b1 / 64 = 2 → b2 / 64 = 2 → ∀ j, i ≤ j → j < i + 3 → ∀ b, s.data.toList[j]? = some b → 128 ≤ b.toNat := by
    intro hc hd j h1 h2 b hb
    rcases (show j = i ∨ j = i + 1 ∨ j = i + 2 from by omega) with rfl | rfl | rfl
    · rw [← g1 _ _ hb, hb0]; exact h8
    · rw [← g1 _ _ hb, hb1]; omega
    · rw [← g1 _ _ hb, hb2]; omega
  have four : b1 / 64 = 2 → b2 / 64 = 2 → b3 / 64 = 2 → ∀ j, i ≤ j → j < i + 4 → ∀ b, s.data.toList[j]? = some b → 128 ≤ b.toNat := by
    intro hc hd he j h1 h2 b hb
    rcases (show j = i ∨ j = i + 1 ∨ j = i + 2 ∨ j = i + 3 from by omega) with rfl | rfl | rfl | rfl
    · rw [← g1 _ _ hb, hb0]; exact h8
    · rw [← g1 _ _ hb, hb1]; omega
    · rw [← g1 _ _ hb, hb2]; omega
    · rw [← g1 _ _ hb, hb3]; omega
  clear g1
  unfold Lib.decodeN
  rw [if_neg (by omega)]
  split
  · rename_i c
    split
    · exact ⟨by omega, by unfold Lib.validRune; simp; omega, by omega, by omega, two c.2.2⟩
    · exact ⟨by decide, by decide, by decide, by omega, one⟩
  · split
    · rename_i c
      split
      · exact ⟨by omega, by unfold Lib.validRune; simp; omega, by omega, by omega, three c.2.1.2 c.2.2.2⟩
      · exact ⟨by decide, by decide, by decide, by omega, one⟩
    · split
      · rename_i c
        split
        · exact ⟨by omega, by unfold Lib.validRune; simp; omega, by omega, by omega, four c.2.1.2 c.2.2.1.2 c.2.2.2.2⟩
        · exact ⟨by decide, by decide, by decide, by omega, one⟩
      · exact ⟨by decide, by decide, by decide, by omega, one⟩

/-- The two wildcards. -/
def W2 : ByteArray := ⟨#[43, 35]⟩
theorem index_W2_none (x : UInt8) (h : 128 ≤ x.toNat) : Lib.indexByte W2.data.toList x = -1 := by
  have : x ∉ W2.data.toList := by
    intro hm
    have : x = 43 ∨ x = 35 := by simpa [W2] using hm
    rcases this with rfl | rfl
    · exact absurd h (by decide)
    · exact absurd h (by decide)
  have h2 := (indexByte_lt W2.data.toList x).2 this
  simp only [W2, Lib.indexByte] at h2 ⊢
  simp only [W2] at this
  simp at this
  simp [this.1, this.2, Ne.symm this.1, Ne.symm this.2]

end Go.Proofs.YtlgbljohhnhhkaaDoor
