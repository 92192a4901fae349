/-
  The small example of prop; To, From.
-/
import Derived.Test.YtlabkbdnknmngaaDoorPrpV
namespace Go.Proofs.YtlabkbdnknmngaaDoor
open Go.RowKit
set_option linter.unusedVariables false
set_option linter.unusedSimpArgs false

theorem beq_self_b (b : Bool) : (b == b) = true := by cases b <;> rfl
theorem value_0 : valueB 33 0 ⟨#[]⟩ ⟨#[]⟩ = false := by decide +kernel
theorem value_1 : valueB 33 1 ⟨#[]⟩ ⟨#[]⟩ = true := by decide +kernel
set_option maxRecDepth 100000 in
set_option maxHeartbeats 1000000 in
theorem told5_any (w : World) (hT : Tabs w) : Calls Tryd.prog 12 #[] w fun e w' => e = .returned (.bool true) ∧ Kept No w w' := by
  have t1 : ∀ wx, Calls Tryd.prog 45 #[.int .u8 38] wx fun e w' => e = .returned (.int .i64 7) ∧ wx = w' := fun wx => type_any 38 wx
  have t2 : ∀ wx, Calls Tryd.prog 14 #[.int .u8 35, .int .i64 3] wx fun e w' => e = .returned (.bool true) ∧ Kept No wx w' := fun wx => for_any 35 3 wx (by decide)
  have t3 : ∀ wx, Calls Tryd.prog 14 #[.int .u8 35, .int .i64 16] wx fun e w' => e = .returned (.bool false) ∧ Kept No wx w' := fun wx => for_any 35 16 wx (by decide)
  have t4 : ∀ wx, Tabs wx → Calls Tryd.prog 13 #[.agg #[.int .u8 33, .int .u32 0, .string ⟨#[]⟩, .string ⟨#[]⟩]] wx fun e w' => e = .returned (.bool false) ∧ Kept No wx w' := fun wx hT => by
    have := pvalue_any 33 0 ⟨#[]⟩ ⟨#[]⟩ wx hT (by decide) (by decide) (by decide) (by decide)
    rw [value_0] at this
    exact this
  have t5 : ∀ wx, Tabs wx → Calls Tryd.prog 13 #[.agg #[.int .u8 33, .int .u32 1, .string ⟨#[]⟩, .string ⟨#[]⟩]] wx fun e w' => e = .returned (.bool true) ∧ Kept No wx w' := fun wx hT => by
    have := pvalue_any 33 1 ⟨#[]⟩ ⟨#[]⟩ wx hT (by decide) (by decide) (by decide) (by decide)
    rw [value_1] at this
    exact this
  have t6 : ∀ wx, Calls Tryd.prog 46 #[.int .u8 11, .int .i64 3] wx fun e w' => e = .returned (.bool true) ∧ Kept No wx w' := fun wx => often_any 11 3 wx (by decide)
  have t7 : ∀ wx, Calls Tryd.prog 46 #[.int .u8 11, .int .i64 8] wx fun e w' => e = .returned (.bool false) ∧ Kept No wx w' := fun wx => often_any 11 8 wx (by decide)
  have T1 := Lib.hid t1
  have T2 := Lib.hid t2
  have T3 := Lib.hid t3
  have T4 := Lib.hid t4
  have T5 := Lib.hid t5
  have T6 := Lib.hid t6
  have T7 := Lib.hid t7
  clear t1 t2 t3 t4 t5 t6 t7
  have hK := Kept.refl No w
  go_enter Tryd.func12, Tryd.ntmps12
  go_wp2_with (first
    | (go_at_call 45; (with_reducible refine (T1.out _).mono ?_); rintro e w1 ⟨rfl, rfl⟩)
    | (go_at_call 14; (with_reducible refine (T2.out _).mono ?_); rintro e w1 ⟨rfl, hk⟩; have hK := hK.trans hk)
    | (go_at_call 14; (with_reducible refine (T3.out _).mono ?_); rintro e w1 ⟨rfl, hk⟩; have hK := hK.trans hk)
    | (go_at_call 13; (with_reducible refine (T4.out _ (hT.kept hK)).mono ?_); rintro e w1 ⟨rfl, hk⟩; have hK := hK.trans hk)
    | (go_at_call 13; (with_reducible refine (T5.out _ (hT.kept hK)).mono ?_); rintro e w1 ⟨rfl, hk⟩; have hK := hK.trans hk)
    | (go_at_call 46; (with_reducible refine (T6.out _).mono ?_); rintro e w1 ⟨rfl, hk⟩; have hK := hK.trans hk)
    | (go_at_call 46; (with_reducible refine (T7.out _).mono ?_); rintro e w1 ⟨rfl, hk⟩; have hK := hK.trans hk))
  go_ret
  exact ⟨rfl, hK⟩

theorem to_any (id n : Nat) (a b : ByteArray) (w : World) :
    Calls Tryd.prog 10 #[.agg #[.int .u8 id, .int .u32 n, .string a, .string b]] w fun e w' => e = .returned (.agg #[.int .u8 id, .int .u32 n, .string a, .string b]) ∧ Kept No w w' := by
  go_enter Tryd.func10, Tryd.ntmps10
  go_wp2
  exact bodyPost_ret (v := .agg #[.int .u8 id, .int .u32 n, .string a, .string b]) (by simp [results, Tryd.results10, go_sem]) rfl ⟨rfl, ((Kept.refl No w).alloc _).alloc _⟩
theorem keepB {w w' : World} {g : Nat} {v0 v1 v2 v3 : Value} (hk : Kept No w w') (h : w.cell? ⟨g, 0, none⟩ = some v0 ∧ w.cell? ⟨g, 1, none⟩ = some v1 ∧ w.cell? ⟨g, 2, none⟩ = some v2 ∧ w.cell? ⟨g, 3, none⟩ = some v3) :
    w'.cell? ⟨g, 0, none⟩ = some v0 ∧ w'.cell? ⟨g, 1, none⟩ = some v1 ∧ w'.cell? ⟨g, 2, none⟩ = some v2 ∧ w'.cell? ⟨g, 3, none⟩ = some v3 :=
  ⟨(hk.cell (p := ⟨g, 0, none⟩) (cell_lt h.1) (fun f => f)).trans h.1, (hk.cell (p := ⟨g, 1, none⟩) (cell_lt h.1) (fun f => f)).trans h.2.1, (hk.cell (p := ⟨g, 2, none⟩) (cell_lt h.1) (fun f => f)).trans h.2.2.1, (hk.cell (p := ⟨g, 3, none⟩) (cell_lt h.1) (fun f => f)).trans h.2.2.2⟩

theorem from_any (id n : Nat) (a b : ByteArray) (w : World) :
    Calls Tryd.prog 15 #[.agg #[.int .u8 id, .int .u32 n, .string a, .string b]] w fun e w' => e = .returned (.agg #[.int .u8 id, .int .u32 n, .string a, .string b]) ∧ Kept No w w' := by
  go_enter Tryd.func15, Tryd.ntmps15
  go_wp2
  exact bodyPost_ret (v := .agg #[.int .u8 id, .int .u32 n, .string a, .string b]) (by simp [results, Tryd.results15, go_sem]) rfl ⟨rfl, ((Kept.refl No w).alloc _).alloc _⟩

end Go.Proofs.YtlabkbdnknmngaaDoor
