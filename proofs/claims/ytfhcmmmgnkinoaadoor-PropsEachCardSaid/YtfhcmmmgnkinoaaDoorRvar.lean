/-
  Contracts of package wire: a Reader's Var; a Reader that isn't there.
-/
import Derived.Test.YtfhcmmmgnkinoaaDoorNum
namespace Go.Proofs.YtfhcmmmgnkinoaaDoor
open Go.RowKit
set_option linter.unusedVariables false
set_option linter.unusedSimpArgs false
set_option maxRecDepth 100000

theorem ret_int {k : IntKind} {a b : Int} (h : a = b) : Ending.returned (.int k a) = .returned (.int k b) := by rw [h]

/-- What is told of a Var behind i digits whose sum is n; and the state behind it. -/
def rv : Nat → Nat → Nat → List UInt8 → Int → Nat × List UInt8 × Int
  | 0, _, _, _, _ => (0, [], 3)
  | f + 1, i, n, l, err =>
    if leftE 1 l err ≠ 0 then (0, leftL 1 l err, leftE 1 l err)
    else if 128 ≤ num (taken 1 l err) then rv f (i + 1) (n + num (taken 1 l err) % 128 * 128 ^ i) (leftL 1 l err) (leftE 1 l err)
    else if num (taken 1 l err) = 0 ∧ 0 < i then (0, [], 3)
    else (n + num (taken 1 l err) % 128 * 128 ^ i, leftL 1 l err, leftE 1 l err)

theorem rv_stop {f i n : Nat} {l : List UInt8} {err : Int} (h : leftE 1 l err ≠ 0) : rv (f + 1) i n l err = (0, leftL 1 l err, leftE 1 l err) := by rw [rv, if_pos h]
theorem rv_more {f i n : Nat} {l : List UInt8} {err : Int} (h : leftE 1 l err = 0) (h1 : 128 ≤ num (taken 1 l err)) : rv (f + 1) i n l err = rv f (i + 1) (n + num (taken 1 l err) % 128 * 128 ^ i) (leftL 1 l err) (leftE 1 l err) := by
  rw [rv, if_neg (by simpa using h), if_pos h1]
theorem rv_zero {f i n : Nat} {l : List UInt8} {err : Int} (h : leftE 1 l err = 0) (h1 : num (taken 1 l err) = 0) (hi : 0 < i) : rv (f + 1) i n l err = (0, [], 3) := by
  rw [rv, if_neg (by simpa using h), if_neg (by omega), if_pos ⟨h1, hi⟩]
theorem rv_done {f i n : Nat} {l : List UInt8} {err : Int} (h : leftE 1 l err = 0) (h1 : num (taken 1 l err) < 128) (hi : ¬ (num (taken 1 l err) = 0 ∧ 0 < i)) : rv (f + 1) i n l err = (n + num (taken 1 l err) % 128 * 128 ^ i, leftL 1 l err, leftE 1 l err) := by
  rw [rv, if_neg (by simpa using h), if_neg (by omega), if_neg hi]

def RvIs (res : Nat × List UInt8 × Int) (w : World) (r : Nat) (e : Ending) (w' : World) : Prop := e = .returned (.int .u32 res.1) ∧ After w w' r res.2.1 res.2.2

set_option maxRecDepth 100000 in
set_option maxHeartbeats 2000000 in
theorem rvar_any (w : World) (r : Nat) (l : List UInt8) (err : Int) (h : Rdr w r l err) :
    Calls Tryd.prog 54 #[.pointer (some ⟨r, 0, none⟩)] w (RvIs (rv 4 0 0 l err) w r) := by
  generalize hR : rv 4 0 0 l err = R
  have HR := Lib.hid hR
  clear hR
  go_enter Tryd.func54, Tryd.ntmps54
  go_wp2
  go_loopw [3, 6] (fun n i wr => ∃ (k x : Nat) (l1 : List UInt8) (e1 : Int), k ≤ 4 ∧ i = .int .i64 k ∧ n = .int .u32 x ∧ x < 128 ^ k ∧ rv (4 - k) k x l1 e1 = R ∧ After w wr r l1 e1) (fun _ i _ => 4 - (intOf i).toNat)
  case atStart => exact ⟨0, 0, l, err, by omega, rfl, rfl, by omega, HR.out, h, Kept.refl _ _⟩
  case round =>
    obtain ⟨k, x, l1, e1, hk, rfl, rfl, hx, hrv, ha⟩ := hrel
    have hby := rbyte_any wr r l1 e1 ha.rdr
    have hnum := num_le 1 l1 e1 1 (by omega)
    have HB := Lib.hid hby
    have HV := Lib.hid hrv
    have hkept := ha.kept
    have hafter := ha
    clear hby hrv HR h
    by_cases h4 : k = 4
    · subst h4
      go_wp2_with (first | (go_at_call 91; refine (fail_any _ r l1 e1 3 ha.rdr).mono ?_; rintro e w2 ⟨rfl, hr2, hk2⟩))
      go_ret
      have : R = (0, [], 3) := by rw [← HV.out]; rfl
      rw [this]
      exact ⟨rfl, hr2, hkept.trans hk2⟩
    · by_cases he : leftE 1 l1 e1 = 0
      · have h1 := rv_more (f := 3 - k) (i := k) (n := x) he
        have h2 := rv_zero (f := 3 - k) (i := k) (n := x) he
        have h3 := rv_done (f := 3 - k) (i := k) (n := x) he
        rw [show 3 - k + 1 = 4 - k from by omega, HV.out] at h1 h2 h3
        rw [he] at h1 h3
        have HB2 := HB.out
        rw [he] at HB2
        generalize num (taken 1 l1 e1) = q at *
        generalize leftL 1 l1 e1 = l2 at *
        have H1 := Lib.hid h1
        have H2 := Lib.hid h2
        have H3 := Lib.hid h3
        have HBB := Lib.hid HB2
        clear h1 h2 h3 HB HB2 HV he
        rcases (show k = 0 ∨ k = 1 ∨ k = 2 ∨ k = 3 from by omega) with rfl | rfl | rfl | rfl
        all_goals
          clear h4 hk
          rcases (show 128 ≤ q ∨ (0 < q ∧ q < 128) ∨ q = 0 from by omega) with hq | ⟨hq0, hq⟩ | rfl
        all_goals
          go_wp2_with (first
            | (go_at_call 17; refine HBB.out.mono ?_; rintro e w2 ⟨rfl, ha2⟩)
            | (go_at_call 23; refine (err_any _ r _ _ ha2.rdr).mono ?_; rintro e w3 ⟨rfl, rfl⟩)
            | (go_at_call 91; refine (fail_any _ r _ _ 3 ha2.rdr).mono ?_; rintro e w4 ⟨rfl, hr4, hk4⟩))
        · go_roundw
          case rel => exact ⟨1, x + q % 128 * 1, l2, 0, by omega, by go_num, by go_num, by omega, (H1.out hq).symm, ha2.rdr, hkept.trans ha2.kept⟩
          case measure => simp [intOf]
        · go_ret
          rw [H3.out hq (by omega)]
          exact ⟨ret_int (by show ((x : Int) + q % 128 : Int) = ((x + q % 128 * 128 ^ 0 : Nat) : Int); omega), ha2.rdr, hkept.trans ha2.kept⟩
        · go_ret
          rw [H3.out (by omega) (by omega)]
          exact ⟨ret_int (by show (x : Int) = ((x + 0 % 128 * 128 ^ 0 : Nat) : Int); omega), ha2.rdr, hkept.trans ha2.kept⟩
        · go_roundw
          case rel => exact ⟨2, x + q % 128 * 128, l2, 0, by omega, by go_num, by go_num, by omega, (H1.out hq).symm, ha2.rdr, hkept.trans ha2.kept⟩
          case measure => simp [intOf]
        · go_ret
          rw [H3.out hq (by omega)]
          exact ⟨ret_int (by show ((x : Int) + q % 128 * 128 : Int) = ((x + q % 128 * 128 ^ 1 : Nat) : Int); omega), ha2.rdr, hkept.trans ha2.kept⟩
        · go_ret
          rw [H2.out (by simp) (by omega)]
          exact ⟨rfl, hr4, (hkept.trans ha2.kept).trans hk4⟩
        · go_roundw
          case rel => exact ⟨3, x + q % 128 * 16384, l2, 0, by omega, by go_num, by go_num, by omega, (H1.out hq).symm, ha2.rdr, hkept.trans ha2.kept⟩
          case measure => simp [intOf]
        · go_ret
          rw [H3.out hq (by omega)]
          exact ⟨ret_int (by show ((x : Int) + q % 128 * 16384 : Int) = ((x + q % 128 * 128 ^ 2 : Nat) : Int); omega), ha2.rdr, hkept.trans ha2.kept⟩
        · go_ret
          rw [H2.out (by simp) (by omega)]
          exact ⟨rfl, hr4, (hkept.trans ha2.kept).trans hk4⟩
        · go_roundw
          case rel => exact ⟨4, x + q % 128 * 2097152, l2, 0, by omega, by go_num, by go_num, by omega, (H1.out hq).symm, ha2.rdr, hkept.trans ha2.kept⟩
          case measure => simp [intOf]
        · go_ret
          rw [H3.out hq (by omega)]
          exact ⟨ret_int (by show ((x : Int) + q % 128 * 2097152 : Int) = ((x + q % 128 * 128 ^ 3 : Nat) : Int); omega), ha2.rdr, hkept.trans ha2.kept⟩
        · go_ret
          rw [H2.out (by simp) (by omega)]
          exact ⟨rfl, hr4, (hkept.trans ha2.kept).trans hk4⟩
      · have hne : (leftE 1 l1 e1 != 0) = true := by simpa using he
        have hlt : (k : Int) < 4 := by omega
        have hE := rv_stop (f := 3 - k) (i := k) (n := x) he
        rw [show 3 - k + 1 = 4 - k from by omega, HV.out] at hE
        have HE := Lib.hid hE
        clear hE he
        go_wp2_with (first
          | (go_at_call 17; refine HB.out.mono ?_; rintro e w2 ⟨rfl, ha2⟩)
          | (go_at_call 23; refine (err_any _ r _ _ ha2.rdr).mono ?_; rintro e w3 ⟨rfl, rfl⟩))
        go_ret
        rw [HE.out]
        exact ⟨rfl, ha2.rdr, hkept.trans ha2.kept⟩

theorem take_nil (n : Int) (w : World) : Calls Tryd.prog 90 #[.pointer none, .int .i64 n] w fun e w' => e = .returned (.slice none 0 0) ∧ w = w' := by
  go_enter Tryd.func90, Tryd.ntmps90
  go_wp2_with (go_at_call 23; refine (err_nil _).mono ?_; rintro e w1 ⟨rfl, rfl⟩)
  go_ret
  exact ⟨rfl, rfl⟩
theorem number_nil (n : Int) (w : World) : Calls Tryd.prog 53 #[.pointer none, .int .i64 n] w fun e w' => e = .returned (.int .u32 0) ∧ w = w' := by
  go_enter Tryd.func53, Tryd.ntmps53
  go_wp2_with (go_at_call 90; refine (take_nil _ _).mono ?_; rintro e w1 ⟨rfl, rfl⟩)
  refine wp_loop_rounds 1 ?_
  rw [rounds_succ]; go_wp2
  go_ret
  exact ⟨rfl, rfl⟩
theorem rbyte_nil (w : World) : Calls Tryd.prog 17 #[.pointer none] w fun e w' => e = .returned (.int .u8 0) ∧ w = w' := by
  go_enter Tryd.func17, Tryd.ntmps17
  go_wp2_with (go_at_call 53; refine (number_nil _ _).mono ?_; rintro e w1 ⟨rfl, rfl⟩)
  go_ret
  exact ⟨rfl, rfl⟩
theorem rtwo_nil (w : World) : Calls Tryd.prog 115 #[.pointer none] w fun e w' => e = .returned (.int .u16 0) ∧ w = w' := by
  go_enter Tryd.func115, Tryd.ntmps115
  go_wp2_with (go_at_call 53; refine (number_nil _ _).mono ?_; rintro e w1 ⟨rfl, rfl⟩)
  go_ret
  exact ⟨rfl, rfl⟩
theorem rfour_nil (w : World) : Calls Tryd.prog 116 #[.pointer none] w fun e w' => e = .returned (.int .u32 0) ∧ w = w' := by
  go_enter Tryd.func116, Tryd.ntmps116
  go_wp2_with (go_at_call 53; refine (number_nil _ _).mono ?_; rintro e w1 ⟨rfl, rfl⟩)
  go_ret
  exact ⟨rfl, rfl⟩
theorem rvar_nil (w : World) : Calls Tryd.prog 54 #[.pointer none] w fun e w' => e = .returned (.int .u32 0) ∧ w = w' := by
  go_enter Tryd.func54, Tryd.ntmps54
  go_wp2
  refine wp_loop_rounds 1 ?_
  rw [rounds_succ]
  go_wp2_with (first
    | (go_at_call 17; refine (rbyte_nil _).mono ?_; rintro e w1 ⟨rfl, rfl⟩)
    | (go_at_call 23; refine (err_nil _).mono ?_; rintro e w1 ⟨rfl, rfl⟩))
  go_ret
  exact ⟨rfl, rfl⟩
theorem str_nil (w : World) : (convert 25 9 (.slice none 0 0)).run Tryd.prog w = .ok (.string ⟨#[]⟩) w := Lib.run_convert_nil_bytes w _ _ 5 0 Tryd.underlying25 Tryd.underlying5 Tryd.underlying9
theorem rbin_nil (w : World) : Calls Tryd.prog 117 #[.pointer none] w fun e w' => e = .returned (.string ⟨#[]⟩) ∧ w = w' := by
  have hs := str_nil w
  go_enter Tryd.func117, Tryd.ntmps117
  go_wp2_with (first
    | (go_at_call 115; refine (rtwo_nil _).mono ?_; rintro e w1 ⟨rfl, rfl⟩)
    | (go_at_call 90; refine (take_nil _ _).mono ?_; rintro e w1 ⟨rfl, rfl⟩))
  go_ret
  exact ⟨rfl, rfl⟩
theorem rrest_nil (w : World) : Calls Tryd.prog 57 #[.pointer none] w fun e w' => e = .returned (.string ⟨#[]⟩) ∧ w = w' := by
  have hs := str_nil w
  go_enter Tryd.func57, Tryd.ntmps57
  go_wp2_with (first
    | (go_at_call 22; refine (left_nil _).mono ?_; rintro e w1 ⟨rfl, rfl⟩)
    | (go_at_call 90; refine (take_nil _ _).mono ?_; rintro e w1 ⟨rfl, rfl⟩))
  go_ret
  exact ⟨rfl, rfl⟩
theorem sub_nil (n : Int) (w : World) : Calls Tryd.prog 55 #[.pointer none, .int .i64 n] w fun e w' => e = .returned (.pointer none) ∧ w = w' := by
  go_enter Tryd.func55, Tryd.ntmps55
  go_wp2
  go_ret
  exact ⟨rfl, rfl⟩

end Go.Proofs.YtfhcmmmgnkinoaaDoor
