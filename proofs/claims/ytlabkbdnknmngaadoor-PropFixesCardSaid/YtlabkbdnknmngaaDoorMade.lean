/-
  A name as the document makes it.
-/
import Derived.Test.YtlabkbdnknmngaaDoorTfix
namespace Go.Proofs.YtlabkbdnknmngaaDoor
open Go.RowKit
set_option linter.unusedVariables false
set_option linter.unusedSimpArgs false

theorem name_of {n : ByteArray} (hv : Vt n.data.toList) (hs : n.size ≤ 65535) (h0 : 0 < n.size) (hw : wildL n.data.toList = false) : nameB n = true := by
  unfold nameB
  rw [hv.ok hs, hw, decide_eq_true h0]
  rfl
def okChars : List UInt8 := [97, 98, 47, 99, 100, 195, 164, 101]
/-- A name as Fix makes it. -/
structure Made (T : ByteArray) : Prop where
  vt : Vt T.data.toList
  ne : T.data.toList ≠ []
  chars : ∀ c ∈ T.data.toList, c ∈ okChars
  len : T.data.toList.length ≤ 16
theorem made_fix (s : ByteArray) : Made (tfixS s) := ⟨tfix_vt _, tfix_ne _, tfix_in _, tfix_len _⟩
section
variable {T : ByteArray}
theorem Made.size (h : Made T) : 0 < T.size ∧ T.size ≤ 16 := by
  have h1 := h.len
  have h2 := List.length_pos_iff.2 h.ne
  rw [sz_list] at h1 h2
  exact ⟨h2, h1⟩
theorem Made.not_in (h : Made T) {c : UInt8} (hc : c ∉ okChars) : c ∉ T.data.toList := fun hm => hc (h.chars c hm)
theorem Made.wild (h : Made T) : wildL T.data.toList = false := wild_no (h.not_in (by decide)) (h.not_in (by decide))
theorem Made.name (h : Made T) : nameB T = true := name_of h.vt (by have := h.size; omega) h.size.1 h.wild
end

end Go.Proofs.YtlabkbdnknmngaaDoor
