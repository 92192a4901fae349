/-
  The walk of ReasonKnown.
-/
import Derived.Test.YtcacpjdmlcclkaaRsnA
namespace Go.Proofs.Ytcacpjdmlcclkaa
open Go.RowKit
set_option linter.unusedVariables false
set_option linter.unusedSimpArgs false

theorem toldAll (w : World) : Calls Try.prog 10 #[.int .i64 5, .int .i64 15] w fun e w' => ∃ g c, e = .returned (.slice (some ⟨g, 0, none⟩) 3 c) ∧ Kept No w w' := by
  refine (all_any 5 15 w).mono ?_
  rintro e w1 ⟨v, rfl, hown, hk⟩
  obtain ⟨g, cap, hv, _⟩ := hown.form (by decide)
  subst hv
  exact ⟨g, cap, rfl, hk⟩
set_option maxRecDepth 100000 in
set_option maxHeartbeats 1000000 in
theorem told3_any (w : World) : Calls Try.prog 5 #[] w fun e w' => e = .returned (.bool true) ∧ Kept No w w' := by
  have t1 : ∀ wx, Calls Try.prog 6 #[.int .i64 5, .int .i64 4, .int .u8 16] wx fun e w' => e = .returned (.bool true) ∧ Kept No wx w' := fun wx => known_any 5 4 16 wx (by decide)
  have t2 : ∀ wx, Calls Try.prog 6 #[.int .i64 4, .int .i64 4, .int .u8 16] wx fun e w' => e = .returned (.bool false) ∧ Kept No wx w' := fun wx => known_any 4 4 16 wx (by decide)
  have t3 : ∀ wx, Calls Try.prog 8 #[.int .i64 4, .int .i64 2, .int .u8 5] wx fun e w' => e = .returned (.bool true) ∧ Kept No wx w' := fun wx => failed_any 4 2 5 wx (by decide)
  have t4 : ∀ wx, Calls Try.prog 8 #[.int .i64 5, .int .i64 4, .int .u8 16] wx fun e w' => e = .returned (.bool false) ∧ Kept No wx w' := fun wx => failed_any 5 4 16 wx (by decide)
  have t5 : ∀ wx, Calls Try.prog 8 #[.int .i64 5, .int .i64 4, .int .u8 151] wx fun e w' => e = .returned (.bool true) ∧ Kept No wx w' := fun wx => failed_any 5 4 151 wx (by decide)
  have T1 := Lib.hid t1
  have T2 := Lib.hid t2
  have T3 := Lib.hid t3
  have T4 := Lib.hid t4
  have T5 := Lib.hid t5
  clear t1 t2 t3 t4 t5
  have hK := Kept.refl No w
  go_enter Try.func5, Try.ntmps5
  go_wp2_with (first
    | (go_at_call 6; with_reducible refine (T1.out _).mono ?_; rintro e w1 ⟨rfl, hk⟩; have hK := hK.trans hk)
    | (go_at_call 6; with_reducible refine (T2.out _).mono ?_; rintro e w1 ⟨rfl, hk⟩; have hK := hK.trans hk)
    | (go_at_call 8; with_reducible refine (T3.out _).mono ?_; rintro e w1 ⟨rfl, hk⟩; have hK := hK.trans hk)
    | (go_at_call 8; with_reducible refine (T4.out _).mono ?_; rintro e w1 ⟨rfl, hk⟩; have hK := hK.trans hk)
    | (go_at_call 8; with_reducible refine (T5.out _).mono ?_; rintro e w1 ⟨rfl, hk⟩; have hK := hK.trans hk)
    | (go_at_call 10; refine (toldAll _).mono ?_; rintro e w1 ⟨g, c, rfl, hk⟩; have hK := hK.trans hk))
  go_ret
  exact ⟨rfl, hK⟩

theorem beq_self_b (b : Bool) : (b == b) = true := by cases b <;> rfl
set_option maxRecDepth 100000 in
set_option maxHeartbeats 1000000 in
theorem reasonKnown_walk (v k c : Int) (w : World) (w0 : (Lit.int .i64 v).wf = true) (w1 : (Lit.int .i64 k).wf = true) (w2 : (Lit.int .u8 c).wf = true) :
    Calls Try.prog 3 #[.int .i64 v, .int .i64 k, .int .u8 c] w fun e w' => e = .returned (.bool true) ∧ Below w.heap.size w w' := by
  have hb := bounds_u8 w2
  obtain ⟨n, rfl⟩ := Int.eq_ofNat_of_zero_le hb.1
  have hn : n < 256 := by omega
  have cT := told3_any
  have cK := fun wx => known_any v k n wx hn
  have cR := fun wx => rknown_any v k n wx hn
  have cF := fun wx => failed_any v k n wx hn
  have cG := fun wx => rfailed_any v k n wx hn
  generalize knownB (sp v k) n = b1 at *
  generalize failedB v k n = b2 at *
  have HT := Lib.hid cT
  have HK := Lib.hid cK
  have HR := Lib.hid cR
  have HF := Lib.hid cF
  have HG := Lib.hid cG
  have hs1 := beq_self_b b1
  have hs2 := beq_self_b b2
  clear cT cK cR cF cG
  have hKK := Kept.refl No w
  go_enter Try.func3, Try.ntmps3
  go_wp2_with (first
    | (go_at_call 5; refine (HT.out _).mono ?_; rintro e w1 ⟨rfl, hk⟩; have hKK := hKK.trans hk)
    | (go_at_call 6; refine (HK.out _).mono ?_; rintro e w1 ⟨rfl, hk⟩; have hKK := hKK.trans hk)
    | (go_at_call 7; refine (HR.out _).mono ?_; rintro e w1 ⟨rfl, hk⟩; have hKK := hKK.trans hk)
    | (go_at_call 8; refine (HF.out _).mono ?_; rintro e w1 ⟨rfl, hk⟩; have hKK := hKK.trans hk)
    | (go_at_call 9; refine (HG.out _).mono ?_; rintro e w1 ⟨rfl, hk⟩; have hKK := hKK.trans hk))
  go_ret
  exact ⟨rfl, hKK.below (Nat.le_refl _) (fun _ _ f => f)⟩

end Go.Proofs.Ytcacpjdmlcclkaa
