/-
  The law's own small example of prop, and the walk of PropTypes.
-/
import Derived.Test.YtcacpjdmlcclkaaDoorPrpV
namespace Go.Proofs.YtcacpjdmlcclkaaDoor
open Go.RowKit
set_option linter.unusedVariables false
set_option linter.unusedSimpArgs false

theorem beq_self_b (b : Bool) : (b == b) = true := by cases b <;> rfl
theorem value_0 : valueB 33 0 ⟨#[]⟩ ⟨#[]⟩ = false := by decide +kernel
theorem value_1 : valueB 33 1 ⟨#[]⟩ ⟨#[]⟩ = true := by decide +kernel
set_option maxRecDepth 100000 in
set_option maxHeartbeats 1000000 in
theorem told5_any (w : World) (hT : Tabs w) : Calls Tryd.prog 24 #[] w fun e w' => e = .returned (.bool true) ∧ Kept No w w' := by
  have t1 : ∀ wx, Calls Tryd.prog 25 #[.int .u8 38] wx fun e w' => e = .returned (.int .i64 7) ∧ wx = w' := fun wx => type_any 38 wx
  have t2 : ∀ wx, Calls Tryd.prog 27 #[.int .u8 35, .int .i64 3] wx fun e w' => e = .returned (.bool true) ∧ Kept No wx w' := fun wx => for_any 35 3 wx (by decide)
  have t3 : ∀ wx, Calls Tryd.prog 27 #[.int .u8 35, .int .i64 16] wx fun e w' => e = .returned (.bool false) ∧ Kept No wx w' := fun wx => for_any 35 16 wx (by decide)
  have t4 : ∀ wx, Tabs wx → Calls Tryd.prog 34 #[.agg #[.int .u8 33, .int .u32 0, .string ⟨#[]⟩, .string ⟨#[]⟩]] wx fun e w' => e = .returned (.bool false) ∧ Kept No wx w' := fun wx hT => by
    have := pvalue_any 33 0 ⟨#[]⟩ ⟨#[]⟩ wx hT (by decide) (by decide) (by decide) (by decide)
    rw [value_0] at this
    exact this
  have t5 : ∀ wx, Tabs wx → Calls Tryd.prog 34 #[.agg #[.int .u8 33, .int .u32 1, .string ⟨#[]⟩, .string ⟨#[]⟩]] wx fun e w' => e = .returned (.bool true) ∧ Kept No wx w' := fun wx hT => by
    have := pvalue_any 33 1 ⟨#[]⟩ ⟨#[]⟩ wx hT (by decide) (by decide) (by decide) (by decide)
    rw [value_1] at this
    exact this
  have t6 : ∀ wx, Calls Tryd.prog 29 #[.int .u8 11, .int .i64 3] wx fun e w' => e = .returned (.bool true) ∧ Kept No wx w' := fun wx => often_any 11 3 wx (by decide)
  have t7 : ∀ wx, Calls Tryd.prog 29 #[.int .u8 11, .int .i64 8] wx fun e w' => e = .returned (.bool false) ∧ Kept No wx w' := fun wx => often_any 11 8 wx (by decide)
  have T1 := Lib.hid t1
  have T2 := Lib.hid t2
  have T3 := Lib.hid t3
  have T4 := Lib.hid t4
  have T5 := Lib.hid t5
  have T6 := Lib.hid t6
  have T7 := Lib.hid t7
  clear t1 t2 t3 t4 t5 t6 t7
  have hK := Kept.refl No w
  go_enter Tryd.func24, Tryd.ntmps24
  go_wp2_with (first
    | (go_at_call 25; (with_reducible refine (T1.out _).mono ?_); rintro e w1 ⟨rfl, rfl⟩)
    | (go_at_call 27; (with_reducible refine (T2.out _).mono ?_); rintro e w1 ⟨rfl, hk⟩; have hK := hK.trans hk)
    | (go_at_call 27; (with_reducible refine (T3.out _).mono ?_); rintro e w1 ⟨rfl, hk⟩; have hK := hK.trans hk)
    | (go_at_call 34; (with_reducible refine (T4.out _ (hT.kept hK)).mono ?_); rintro e w1 ⟨rfl, hk⟩; have hK := hK.trans hk)
    | (go_at_call 34; (with_reducible refine (T5.out _ (hT.kept hK)).mono ?_); rintro e w1 ⟨rfl, hk⟩; have hK := hK.trans hk)
    | (go_at_call 29; (with_reducible refine (T6.out _).mono ?_); rintro e w1 ⟨rfl, hk⟩; have hK := hK.trans hk)
    | (go_at_call 29; (with_reducible refine (T7.out _).mono ?_); rintro e w1 ⟨rfl, hk⟩; have hK := hK.trans hk))
  go_ret
  exact ⟨rfl, hK⟩

set_option maxRecDepth 100000 in
set_option maxHeartbeats 1000000 in
theorem propTypes_walk (c k : Int) (w : World) (w0 : (Lit.int .u8 c).wf = true) (w1 : (Lit.int .i64 k).wf = true) (hT : Tabs w) :
    Calls Tryd.prog 7 #[.int .u8 c, .int .i64 k] w fun e w' => e = .returned (.bool true) ∧ Below w.heap.size w w' := by
  have hb := bounds_u8 w0
  obtain ⟨id, rfl⟩ := Int.eq_ofNat_of_zero_le hb.1
  have hn : id < 256 := by omega
  have cT := told5_any w hT
  have c1 := fun wx => type_any id wx
  have c2 := fun wx => rtype_any id wx
  have c3 := fun wx => for_any id k wx hn
  have c4 := fun wx => rfor_any id k wx hn
  have c5 := fun wx => often_any id k wx hn
  have c6 := fun wx => roften_any id k wx hn
  generalize typL id = t at *
  generalize forB id k = b1 at *
  generalize oftenB id k = b2 at *
  have HT := Lib.hid cT
  have H1 := Lib.hid c1
  have H2 := Lib.hid c2
  have H3 := Lib.hid c3
  have H4 := Lib.hid c4
  have H5 := Lib.hid c5
  have H6 := Lib.hid c6
  have hs1 := beq_self_b b1
  have hs2 := beq_self_b b2
  have hs3 : ((t : Int) == (t : Int)) = true := by simp
  clear cT c1 c2 c3 c4 c5 c6
  have hKK := Kept.refl No w
  go_enter Tryd.func7, Tryd.ntmps7
  go_wp2_with (first
    | (go_at_call 24; refine HT.out.mono ?_; rintro e w1 ⟨rfl, hk⟩; have hKK := hKK.trans hk)
    | (go_at_call 25; refine (H1.out _).mono ?_; rintro e w1 ⟨rfl, rfl⟩)
    | (go_at_call 26; refine (H2.out _).mono ?_; rintro e w1 ⟨rfl, rfl⟩)
    | (go_at_call 27; refine (H3.out _).mono ?_; rintro e w1 ⟨rfl, hk⟩; have hKK := hKK.trans hk)
    | (go_at_call 28; refine (H4.out _).mono ?_; rintro e w1 ⟨rfl, hk⟩; have hKK := hKK.trans hk)
    | (go_at_call 29; refine (H5.out _).mono ?_; rintro e w1 ⟨rfl, hk⟩; have hKK := hKK.trans hk)
    | (go_at_call 30; refine (H6.out _).mono ?_; rintro e w1 ⟨rfl, hk⟩; have hKK := hKK.trans hk))
  go_ret
  exact ⟨by first | rfl | simp, hKK.below (Nat.le_refl _) (fun _ _ f => f)⟩

end Go.Proofs.YtcacpjdmlcclkaaDoor
