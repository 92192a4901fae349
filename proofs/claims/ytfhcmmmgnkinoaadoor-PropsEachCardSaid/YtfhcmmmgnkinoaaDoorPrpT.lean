/-
  The small example of prop; To, From.
-/
import Derived.Test.YtfhcmmmgnkinoaaDoorPrpV
namespace Go.Proofs.YtfhcmmmgnkinoaaDoor
open Go.RowKit
set_option linter.unusedVariables false
set_option linter.unusedSimpArgs false

theorem beq_self_b (b : Bool) : (b == b) = true := by cases b <;> rfl
theorem value_0 : valueB 33 0 ⟨#[]⟩ ⟨#[]⟩ = false := by decide +kernel
theorem value_1 : valueB 33 1 ⟨#[]⟩ ⟨#[]⟩ = true := by decide +kernel
theorem to_any (id n : Nat) (a b : ByteArray) (w : World) :
    Calls Tryd.prog 47 #[.agg #[.int .u8 id, .int .u32 n, .string a, .string b]] w fun e w' => e = .returned (.agg #[.int .u8 id, .int .u32 n, .string a, .string b]) ∧ Kept No w w' := by
  go_enter Tryd.func47, Tryd.ntmps47
  go_wp2
  exact bodyPost_ret (v := .agg #[.int .u8 id, .int .u32 n, .string a, .string b]) (by simp [results, Tryd.results47, go_sem]) rfl ⟨rfl, ((Kept.refl No w).alloc _).alloc _⟩
theorem keepB {w w' : World} {g : Nat} {v0 v1 v2 v3 : Value} (hk : Kept No w w') (h : w.cell? ⟨g, 0, none⟩ = some v0 ∧ w.cell? ⟨g, 1, none⟩ = some v1 ∧ w.cell? ⟨g, 2, none⟩ = some v2 ∧ w.cell? ⟨g, 3, none⟩ = some v3) :
    w'.cell? ⟨g, 0, none⟩ = some v0 ∧ w'.cell? ⟨g, 1, none⟩ = some v1 ∧ w'.cell? ⟨g, 2, none⟩ = some v2 ∧ w'.cell? ⟨g, 3, none⟩ = some v3 :=
  ⟨(hk.cell (p := ⟨g, 0, none⟩) (cell_lt h.1) (fun f => f)).trans h.1, (hk.cell (p := ⟨g, 1, none⟩) (cell_lt h.1) (fun f => f)).trans h.2.1, (hk.cell (p := ⟨g, 2, none⟩) (cell_lt h.1) (fun f => f)).trans h.2.2.1, (hk.cell (p := ⟨g, 3, none⟩) (cell_lt h.1) (fun f => f)).trans h.2.2.2⟩

theorem from_any (id n : Nat) (a b : ByteArray) (w : World) :
    Calls Tryd.prog 32 #[.agg #[.int .u8 id, .int .u32 n, .string a, .string b]] w fun e w' => e = .returned (.agg #[.int .u8 id, .int .u32 n, .string a, .string b]) ∧ Kept No w w' := by
  go_enter Tryd.func32, Tryd.ntmps32
  go_wp2
  exact bodyPost_ret (v := .agg #[.int .u8 id, .int .u32 n, .string a, .string b]) (by simp [results, Tryd.results32, go_sem]) rfl ⟨rfl, ((Kept.refl No w).alloc _).alloc _⟩

end Go.Proofs.YtfhcmmmgnkinoaaDoor
