/-
  Contracts of package topic: covers, Match.
-/
import Derived.Test.YtcacpjdmlcclkaaDoorTopF
namespace Go.Proofs.YtcacpjdmlcclkaaDoor
open Go.RowKit
set_option linter.unusedVariables false
set_option linter.unusedSimpArgs false

theorem strs_at {w : World} {a : Option Addr} {L : List (List UInt8)} (h : Row w a (strsL L)) (j : Nat) (hj : j < L.length) : ∃ b off, a = some ⟨b, off, none⟩ ∧ w.cell? ⟨b, off + j, none⟩ = some (.string ⟨L[j].toArray⟩) := by
  obtain ⟨b, off, ha, hb, hc⟩ := h.at_ (k := j) (by simpa [strsL] using hj)
  refine ⟨b, off, ha, ?_⟩
  rw [hc]
  simp [strsL]

theorem covers_rest (fs ns : List (List UInt8)) : coversL ([35] :: fs) ns = true := by cases ns <;> simp [coversL]
theorem covers_end {f : List UInt8} (h : ¬ f = [35]) (fs : List (List UInt8)) : coversL (f :: fs) [] = false := by simp [coversL, h]
theorem covers_step {f : List UInt8} (h : ¬ f = [35]) (fs : List (List UInt8)) (n : List UInt8) (t : List (List UInt8)) : coversL (f :: fs) (n :: t) = ((decide (f = [43]) || decide (f = n)) && coversL fs t) := by simp [coversL, h]

set_option maxRecDepth 100000 in
set_option maxHeartbeats 2000000 in
theorem covers_any (s t : ByteArray) (w : World) (hs : s.size < 4294967281) (ht : t.size < 4294967281) :
    Calls Tryd.prog 48 #[.string s, .string t] w fun e w' => e = .returned (.bool (coversL (lev s.data.toList) (lev t.data.toList))) ∧ Kept No w w' := by
  have cS := split_any s
  have cT := split_any t
  have hF := lev_len s.data.toList
  have hN := lev_len t.data.toList
  rw [sz_list] at hF hN
  generalize lev s.data.toList = F at *
  generalize lev t.data.toList = N at *
  generalize hC : coversL F N = C
  have HC := Lib.hid hC
  have HS := Lib.hid (fun wx => cS wx hs)
  have HT := Lib.hid (fun wx => cT wx ht)
  clear hC cS cT
  go_enter Tryd.func48, Tryd.ntmps48
  go_wp2_with (first
    | (go_at_call 60; (with_reducible refine (HS.out _).mono ?_); rintro e w1 ⟨a, rfl, hr, hk⟩)
    | (go_at_call 60; refine (HT.out _).mono ?_; rintro e w2 ⟨a', rfl, hr', hk'⟩; have hr := hr.keptNo hk'))
  go_loop [15] (fun i => ∃ j : Nat, i = .int .i64 j ∧ j ≤ F.length ∧ j ≤ N.length ∧ Hid (coversL (F.drop j) (N.drop j) = C)) (fun i => F.length - (intOf i).toNat)
  case atStart => exact ⟨0, rfl, by omega, by omega, Lib.hid (by rw [List.drop_zero, List.drop_zero]; exact HC.out)⟩
  case round =>
    obtain ⟨j, rfl, hj, hjN, HD⟩ := hrel
    by_cases hlt : j < F.length
    · have HX := Lib.hid (show F.drop j = F[j] :: F.drop (j + 1) from List.drop_eq_getElem_cons hlt)
      obtain ⟨b, off, rfl, hc⟩ := strs_at hr j hlt
      generalize F[j] = x at *
      by_cases h35 : x = [35]
      · subst h35
        have HN : Hid (C = true) := Lib.hid (by rw [← HD.out, HX.out, covers_rest])
        go_wp2
        go_ret
        exact ⟨by rw [HN.out]; rfl, hk.trans hk'⟩
      · have h35b : (x == [35]) = false := by simpa using h35
        have h35n : (x != [35]) = true := by simpa using h35
        by_cases hNl : j < N.length
        · have HY := Lib.hid (show N.drop j = N[j] :: N.drop (j + 1) from List.drop_eq_getElem_cons hNl)
          obtain ⟨b', off', rfl, hc'⟩ := strs_at hr' j hNl
          generalize N[j] = y at *
          have hne : ((j : Int) == (N.length : Int)) = false := by simp; omega
          have HU : Hid (coversL (F.drop j) (N.drop j) = ((decide (x = [43]) || decide (x = y)) && coversL (F.drop (j + 1)) (N.drop (j + 1)))) := Lib.hid (by rw [HX.out, HY.out, covers_step h35])
          by_cases h43 : x = [43]
          · subst h43
            have HN : Hid (coversL (F.drop (j + 1)) (N.drop (j + 1)) = C) := Lib.hid (by have := HD.out; rw [HU.out] at this; simpa using this)
            go_wp2
            go_round
            case rel => exact ⟨j + 1, by go_num, by omega, by omega, HN⟩
            case measure => simp [intOf]; omega
          · have h43b : (x == [43]) = false := by simpa using h43
            have h43n : (x != [43]) = true := by simpa using h43
            by_cases hxy : x = y
            · subst hxy
              have HN : Hid (coversL (F.drop (j + 1)) (N.drop (j + 1)) = C) := Lib.hid (by have := HD.out; rw [HU.out] at this; simpa using this)
              go_wp2
              go_round
              case rel => exact ⟨j + 1, by go_num, by omega, by omega, HN⟩
              case measure => simp [intOf]; omega
            · have HN : Hid (C = false) := Lib.hid (by have := HD.out; rw [HU.out] at this; simpa [h43, hxy] using this.symm)
              have hxyb : (x == y) = false := by simpa using hxy
              have hxyn : (x != y) = true := by simpa using hxy
              go_wp2
              go_ret
              exact ⟨by rw [HN.out]; rfl, hk.trans hk'⟩
        · have hje : ((j : Int) == (N.length : Int)) = true := by simp; omega
          have HN : Hid (C = false) := Lib.hid (by rw [← HD.out, HX.out, show N.drop j = [] from List.drop_of_length_le (by omega), covers_end h35])
          go_wp2
          go_ret
          exact ⟨by rw [HN.out]; rfl, hk.trans hk'⟩
    · have hF0 : F.drop j = [] := List.drop_of_length_le (by omega)
      have HN : Hid (C = decide (F.length = N.length)) := Lib.hid (by
        rw [← HD.out, hF0, coversL]
        by_cases he : F.length = N.length
        · rw [List.drop_of_length_le (by omega), decide_eq_true he]; rfl
        · rw [decide_eq_false he]
          cases hd : N.drop j with
          | nil => have := congrArg List.length hd; simp at this; omega
          | cons _ _ => rfl)
      have HB : Hid (((F.length : Int) == (N.length : Int)) = decide (F.length = N.length)) := Lib.hid (by
        by_cases he : F.length = N.length
        · rw [decide_eq_true he]; simp [he]
        · rw [decide_eq_false he]; simp; omega)
      clear hF0
      go_wp2
      go_ret
      exact ⟨by rw [HN.out, ← HB.out]; rfl, hk.trans hk'⟩

end Go.Proofs.YtcacpjdmlcclkaaDoor
