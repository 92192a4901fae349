/-
  A slice of pairs of numbers, out of its cells.
-/
import Derived.Test.YtfkddmdoepiikaaReadsBase
namespace Go.Proofs.Ytfkddmdoepiikaa
open Go.RowKit
set_option linter.unusedVariables false
set_option linter.unusedSimpArgs false

theorem isPairs_none (w : World) (a : Option Addr) : IsPairs w a 0 0 [] := ⟨rfl, Nat.le_refl _, by simp [maxLen], .inl rfl⟩
theorem isPairs_of {w : World} {a : Addr} {len cap : Nat} (hl : len ≤ cap) (hm : cap ≤ maxLen) (V0 V1 : Nat → Value)
    (h : ∀ i, i < len → w.cell? (a.add (i * 2)) = some (V0 i) ∧ w.cell? (a.add (i * 2 + 1)) = some (V1 i) ∧ ∃ x0 x1, V0 i = .int .i64 x0 ∧ V1 i = .int .i64 x1) : ∃ z, IsPairs w (some a) len cap z := by
  refine ⟨(List.range len).map fun i => (intOf (V0 i), intOf (V1 i)), by simp, hl, hm, ?_⟩
  rcases Nat.eq_zero_or_pos len with h0 | h0
  · exact .inl h0
  · obtain ⟨b, off, spot⟩ := a
    have hc := (h 0 h0).1
    have hspot : spot = none := by simpa [Addr.add] using World.cell?_spot hc
    subst hspot
    have hlt : b < w.heap.size := by
      rcases Nat.lt_or_ge b w.heap.size with hlt | hge
      · exact hlt
      · have e0 : ((⟨b, off, none⟩ : Addr).add (0 * 2)) = ⟨b, off, none⟩ := rfl
        rw [e0] at hc
        simp [World.cell?, Array.getElem?_eq_none hge] at hc
    refine .inr ⟨b, off, rfl, hlt, fun i hi => ?_⟩
    obtain ⟨q0, q1, x0, x1, e0, e1⟩ := h i hi
    rw [Addr.add_lit] at q0 q1
    have hg : ((List.range len).map fun i => (intOf (V0 i), intOf (V1 i))).getD i (0, 0) = (x0, x1) := by
      rw [List.getD_eq_getElem?_getD]
      simp [hi, e0, e1, intOf]
    rw [hg]
    exact ⟨by rw [q0, e0], by rw [Nat.add_assoc]; rw [q1, e1]⟩

end Go.Proofs.Ytfkddmdoepiikaa
