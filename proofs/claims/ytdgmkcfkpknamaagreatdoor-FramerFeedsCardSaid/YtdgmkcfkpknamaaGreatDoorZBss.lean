/-
  Rows of bytes that come in.
-/
import Derived.Deep.Matrix
import Derived.Test.YtdgmkcfkpknamaaGreatDoorYI1
import Derived.Test.YtdgmkcfkpknamaaGreatDoorYH4
namespace Go.Proofs.YtdgmkcfkpknamaaGreatDoor
open Go.RowKit
set_option linter.unusedVariables false
set_option linter.unusedSimpArgs false
set_option maxRecDepth 100000
def IsBss (w : World) (a : Option Addr) (n c : Nat) (z : (Nat → Option Addr) × (Nat → List UInt8) × (Nat → Nat)) : Prop := (a = none → n = 0 ∧ c = 0) ∧ n ≤ c ∧ c ≤ maxLen ∧ Row w a ((List.range n).map fun r => .slice (z.1 r) (z.2.1 r).length (z.2.2 r)) ∧ ∀ r, r < n → Row w (z.1 r) (B8 (z.2.1 r)) ∧ (z.1 r = none → (z.2.1 r).length = 0 ∧ z.2.2 r = 0) ∧ (z.2.1 r).length ≤ z.2.2 r
theorem open_bss {H : Type} {enc : TypeId × Value → H} {w : World} {base : Nat} {held : Bool} {fuel : Nat} {cs : List Value} {x : DataW H × List MemPlace} (h : DataW.trod enc Tryz.prog w base (fun _ => true) held fuel 54 cs = some x) : ∃ x9 l9 c9 zs, cs = [.slice x9 l9 c9] ∧ IsBss w x9 l9 c9 zs := by
  rcases Go.Deep.open_int_rows Tryz.underlying54 Tryz.underlying25 Tryz.underlying5 (by kernel_rfl) (by kernel_rfl) h with ⟨rfl, _⟩ | ⟨a, len, cap, A, L, C, Z, rfl, hb, hl, hm, _, hx⟩
  · exact ⟨none, 0, 0, (fun _ => none, fun _ => [], fun _ => 0), rfl, fun _ => ⟨rfl, rfl⟩, Nat.le_refl _, Nat.zero_le _, .inl rfl, fun r hr => absurd hr (by omega)⟩
  · have hR : ∀ r, r < cap → IsRow .u8 w (A r) (L r) (C r) (Z r) := fun r hr => by
      obtain ⟨_, h2, h3, h4, h5, h6, h7⟩ := hx r hr
      cases hA : A r with
      | none =>
        have h8 := h6 hA
        exact .inl ⟨rfl, by omega, h8, List.length_eq_zero_iff.1 (by omega)⟩
      | some a' => exact .inr ⟨a', rfl, h2, h3, h4, fun i hi => (h7 a' hA).2 i (by omega), h5⟩
    have hlen : ∀ r, r < cap → ((Z r).take (L r)).length = L r := fun r hr => (hR r hr).row.2.1
    refine ⟨some a, len, cap, (A, fun r => ((Z r).take (L r)).map byteOf, C), rfl, (fun e => by cases e), hl, hm, Row.of_cells fun j u hj => ?_, fun r hr => ?_⟩
    · have hjl : j < len := by
        have := (List.getElem?_eq_some_iff.1 hj).1
        simpa using this
      simp only [List.getElem?_map, List.getElem?_range hjl, Option.map_some, Option.some.injEq, List.length_map, hlen j (by omega)] at hj
      rw [← hj]
      exact (hx j (by omega)).1
    · obtain ⟨q1, q2, q3, q4, q5, q6⟩ := (hR r (by omega)).row
      rw [ints_bytes q6] at q1
      refine ⟨q1, fun e => ⟨by simp only [List.length_map, q2]; have := q5 e; omega, q5 e⟩, by simp only [List.length_map, q2]; exact q3⟩
theorem bss_row {w : World} {a : Option Addr} {n c : Nat} {z : (Nat → Option Addr) × (Nat → List UInt8) × (Nat → Nat)} (h : IsBss w a n c z) {i : Nat} (hi : i < n) : ∃ b o, Rat w a 1 i b o [.slice (z.1 i) (z.2.1 i).length (z.2.2 i)] := by
  refine h.2.2.2.1.rat 1 i _ (fun k v hk => ?_) (by simpa using hi)
  cases k with
  | zero =>
    obtain rfl : Value.slice (z.1 i) (z.2.1 i).length (z.2.2 i) = v := by simpa [nth] using hk
    simp [hi]
  | succ k => simp [nth] at hk
end Go.Proofs.YtdgmkcfkpknamaaGreatDoor
