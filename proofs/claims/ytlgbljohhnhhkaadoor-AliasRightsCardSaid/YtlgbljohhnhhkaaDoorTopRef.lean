/-
  Contracts of the document's own text (pouchref04): has, Wild, Name.
-/
import Derived.Test.YtlgbljohhnhhkaaDoorTopP
namespace Go.Proofs.YtlgbljohhnhhkaaDoor
open Go.RowKit
set_option linter.unusedVariables false
set_option linter.unusedSimpArgs false

theorem take_snoc (s : ByteArray) (k : Nat) (h : k < s.size) : s.data.toList.take (k + 1) = s.data.toList.take k ++ [s[k]] := by
  rw [List.take_succ_eq_append_getElem (by simpa using h)]; rfl
set_option maxHeartbeats 1000000 in
theorem rhas_any (s : ByteArray) (c : UInt8) (w : World) (hs : s.size ≤ 9223372036854775807) :
    Calls Tryd.prog 34 #[.string s, .int .u8 c.toNat] w fun e w' => e = .returned (.bool (s.data.toList.contains c)) ∧ w = w' := by
  generalize hB : s.data.toList.contains c = B
  have HB := Lib.hid hB
  clear hB
  go_enter Tryd.func34, Tryd.ntmps34
  go_wp2
  go_loop [5] (fun i => ∃ j : Nat, j ≤ s.size ∧ i = .int .i64 j ∧ Hid (c ∉ s.data.toList.take j)) (fun i => s.size - (intOf i).toNat)
  case atStart => exact ⟨0, by omega, rfl, Lib.hid (by simp)⟩
  case round =>
    obtain ⟨j, hj, rfl, HN⟩ := hrel
    by_cases hlt : j < s.size
    · have HT := Lib.hid (take_snoc s j hlt)
      have HM : Hid (s[j] ∈ s.data.toList) := Lib.hid (by have : s.data.toList[j]? = some s[j] := Lib.data_getElem? s j hlt; exact List.mem_of_getElem? this)
      by_cases he : s[j] = c
      · have hb : ((s[j].toNat : Int) == (c.toNat : Int)) = true := by rw [he]; simp
        have HC : Hid (B = true) := Lib.hid (by rw [← HB.out]; have := HM.out; rw [he] at this; simpa using this)
        clear he
        go_wp2
        go_ret
        exact ⟨by rw [HC.out]; rfl, rfl⟩
      · have hb : ((s[j].toNat : Int) == (c.toNat : Int)) = false := by
          have : s[j].toNat ≠ c.toNat := fun h => he (UInt8.toNat_inj.1 h)
          simp
          omega
        have HN2 : Hid (c ∉ s.data.toList.take (j + 1)) := Lib.hid (by rw [HT.out]; have := HN.out; simp [this]; exact fun e => he e.symm)
        go_wp2
        go_round
        case rel => exact ⟨j + 1, by omega, by go_num, HN2⟩
        case measure => simp [intOf]; omega
    · have HC : Hid (B = false) := Lib.hid (by rw [← HB.out]; have := HN.out; rw [List.take_of_length_le (by rw [sz_list]; omega)] at this; simpa using this)
      go_wp2
      go_ret
      exact ⟨by rw [HC.out]; rfl, rfl⟩
theorem rwild_any (s : ByteArray) (w : World) (hs : s.size ≤ 9223372036854775807) :
    Calls Tryd.prog 24 #[.string s] w fun e w' => e = .returned (.bool (wildL s.data.toList)) ∧ w = w' := by
  unfold wildL
  have dc1 : ∀ wx, Calls Tryd.prog 34 #[.string s, .int .u8 43] wx fun e w' => e = .returned (.bool (s.data.toList.contains 43)) ∧ wx = w' := fun wx => rhas_any s 43 wx hs
  have c1 := Lib.hid dc1
  clear dc1
  have dc2 : ∀ wx, Calls Tryd.prog 34 #[.string s, .int .u8 35] wx fun e w' => e = .returned (.bool (s.data.toList.contains 35)) ∧ wx = w' := fun wx => rhas_any s 35 wx hs
  have c2 := Lib.hid dc2
  clear dc2
  generalize s.data.toList.contains 43 = B1 at *
  generalize s.data.toList.contains 35 = B2 at *
  cases B1
  all_goals
    go_enter Tryd.func24, Tryd.ntmps24
    go_wp2_with (first
      | (go_at_call 34; (with_reducible refine (c1.out _).mono ?_); rintro e w1 ⟨rfl, rfl⟩)
      | (go_at_call 34; (with_reducible refine (c2.out _).mono ?_); rintro e w1 ⟨rfl, rfl⟩))
    go_ret
    exact ⟨by first | rfl | simp, rfl⟩
theorem rname_any (s : ByteArray) (w : World) (hs : s.size ≤ 9223372036854775807) :
    Calls Tryd.prog 16 #[.string s] w fun e w' => e = .returned (.bool (nameB s)) ∧ Kept No w w' := by
  unfold nameB
  have cO := fun wx => refRight_any s wx hs
  rcases hO : okText s with _ | _
  · rw [hO] at cO
    have HO := Lib.hid cO
    rw [Bool.false_and]
    clear cO hO
    go_enter Tryd.func16, Tryd.ntmps16
    go_wp2_with (go_at_call 23; refine (HO.out _).mono ?_; rintro e w1 ⟨rfl, rfl⟩)
    go_ret
    exact ⟨rfl, Kept.refl _ _⟩
  · rw [hO] at cO
    have HO := Lib.hid cO
    rw [Bool.true_and]
    clear cO hO
    by_cases h0 : 0 < s.size
    · rw [decide_eq_true h0, Bool.true_and]
      have HW := Lib.hid (fun wx => rwild_any s wx hs)
      have h0z : (0 : Int) < s.size := by omega
      generalize wildL s.data.toList = B at *
      go_enter Tryd.func16, Tryd.ntmps16
      go_wp2_with (first
        | (go_at_call 23; refine (HO.out _).mono ?_; rintro e w1 ⟨rfl, rfl⟩)
        | (go_at_call 24; refine (HW.out _).mono ?_; rintro e w2 ⟨rfl, rfl⟩))
      go_ret
      exact ⟨rfl, Kept.refl _ _⟩
    · rw [decide_eq_false h0, Bool.false_and]
      obtain rfl := empty_of (s := s) (by omega)
      go_enter Tryd.func16, Tryd.ntmps16
      go_wp2_with (go_at_call 23; refine (HO.out _).mono ?_; rintro e w1 ⟨rfl, rfl⟩)
      go_ret
      exact ⟨rfl, Kept.refl _ _⟩

end Go.Proofs.YtlgbljohhnhhkaaDoor
