/-
  Contracts of the document's own text (pouchref04): share, Filter, Shared.
-/
import Derived.Test.YtcacpjdmlcclkaaDoorTopRl
import Derived.Test.YtcacpjdmlcclkaaDoorTopMt
namespace Go.Proofs.YtcacpjdmlcclkaaDoor
open Go.RowKit
set_option linter.unusedVariables false
set_option linter.unusedSimpArgs false

theorem drop7_take (l : List UInt8) (j : Nat) (hj : 7 ≤ j) (hlt : j < l.length) (hc : l[j] = 47) (hn : 47 ∉ (l.drop 7).take (j - 7)) :
    whoL (behind l) = (l.drop 7).take (j - 7) ∧ whatL (behind l) = l.drop (j + 1) ∧ (behind l).contains 47 = true := by
  have e : behind l = (l.drop 7).take (j - 7) ++ 47 :: l.drop (j + 1) := by
    unfold behind
    have h4 := (List.take_append_drop (j - 7) (l.drop 7)).symm
    rw [List.drop_drop, show 7 + (j - 7) = j from by omega, List.drop_eq_getElem_cons hlt, hc] at h4
    exact h4
  rw [e]
  have h := who_app _ (l.drop (j + 1)) hn
  refine ⟨h.1, h.2, by simp⟩

set_option maxRecDepth 100000 in
set_option maxHeartbeats 2000000 in
theorem rshare_any (s : ByteArray) (w : World) (hs : s.size ≤ 9223372036854775806) :
    Calls Tryd.prog 41 #[.string s] w fun e w' => e = .returned (rshareV s) ∧ Kept No w w' := by
  have hsl := Lib.hid (sz_list s)
  generalize hV : rshareV s = V
  unfold rshareV at hV
  by_cases h7 : s.size < 7
  · have h7z : (s.size : Int) < 7 := by omega
    have HV : Hid (V = .tuple #[.string ⟨#[]⟩, .string ⟨#[]⟩, .bool false]) := Lib.hid (by rw [← hV, isShare_short _ (by rw [hsl.out]; exact h7)]; rfl)
    clear hV
    go_enter Tryd.func41, Tryd.ntmps41
    go_wp2
    go_ret3
    exact ⟨by rw [HV.out]; rfl, Kept.refl _ _⟩
  have h7z : (7 : Int) ≤ s.size := by omega
  have hst := isShare_take s.data.toList (by rw [hsl.out]; omega)
  have hx : s.extract 0 7 = ⟨(s.data.toList.take 7).toArray⟩ := by rw [extract_at]; simp
  by_cases hT : s.data.toList.take 7 = shareW
  · rw [hst, decide_eq_true hT, if_pos rfl] at hV
    have hx2 : s.extract 0 7 = ⟨#[36, 115, 104, 97, 114, 101, 47]⟩ := by rw [hx, hT]; rfl
    have HV := Lib.hid hV
    clear hV hst hx hT
    go_enter Tryd.func41, Tryd.ntmps41
    go_wp2
    have HX2 := Lib.hid hx2
    clear hx2
    go_loop [5] (fun i => ∃ j : Nat, i = .int .i64 j ∧ 7 ≤ j ∧ j ≤ s.size ∧ Hid (47 ∉ (s.data.toList.drop 7).take (j - 7))) (fun i => s.size - (intOf i).toNat)
    case atStart => exact ⟨7, rfl, by omega, by omega, Lib.hid (by simp)⟩
    case round =>
      obtain ⟨j, rfl, hj7, hj, HN⟩ := hrel
      by_cases hlt : j < s.size
      · have hlt2 : j < s.data.toList.length := by rw [hsl.out]; exact hlt
        have hget : Hid (s.data.toList[j] = s[j]) := Lib.hid (by simp [ByteArray.getElem_eq_getElem_data] <;> rfl)
        by_cases hc : s[j] = 47
        · have hb : ((s[j].toNat : Int) == 47) = true := by rw [hc]; rfl
          have hd := drop7_take s.data.toList j hj7 hlt2 (by rw [hget.out]; exact hc) HN.out
          have HQ : Hid (V = .tuple #[.string (s.extract 7 j), .string (s.extract (j + 1) s.size), .bool true]) := Lib.hid (by
            rw [← HV.out, hd.2.2, if_pos rfl, hd.1, hd.2.1, extract_at, extract_at, List.take_of_length_le (l := s.data.toList.drop (j + 1)) (by rw [List.length_drop, hsl.out]; exact Nat.le_refl _)])
          have hj1 : (7 : Int) ≤ j := by omega
          have hj2 : (j : Int) ≤ s.size := by omega
          have hj3 : (0 : Int) ≤ (j : Int) + 1 := by omega
          have hj4 : (j : Int) + 1 ≤ s.size := by omega
          have hj5 : ((j : Int) + 1).toNat = j + 1 := by omega
          clear hc hd
          go_wp2
          go_quiet (fail)
          go_wp2
          go_ret3
          exact ⟨by rw [HQ.out]; rfl, (Kept.refl No w).drewN _⟩
        · have hb : ((s[j].toNat : Int) == 47) = false := by
            have : s[j].toNat ≠ 47 := fun h => hc (UInt8.toNat_inj.1 h)
            simp
            omega
          have HN2 : Hid (47 ∉ (s.data.toList.drop 7).take (j + 1 - 7)) := Lib.hid (by
            have e : j + 1 - 7 = (j - 7) + 1 := by omega
            have hd : j - 7 < (s.data.toList.drop 7).length := by rw [List.length_drop]; omega
            rw [e, List.take_succ_eq_append_getElem hd]
            have hg : (s.data.toList.drop 7)[j - 7] = s[j] := by
              rw [List.getElem_drop, ← hget.out]
              congr 1
              omega
            rw [hg]
            simp only [List.mem_append, List.mem_singleton, not_or]
            exact ⟨HN.out, fun e => hc e.symm⟩)
          clear hc
          go_wp2
          go_round
          case rel => exact ⟨j + 1, by go_num, by omega, by omega, HN2⟩
          case measure => simp [intOf]; omega
      · have HQ : Hid (V = .tuple #[.string ⟨#[]⟩, .string ⟨#[]⟩, .bool true]) := Lib.hid (by
          have hn : (behind s.data.toList).contains 47 = false := by
            have := HN.out
            rw [List.take_of_length_le (by rw [List.length_drop, hsl.out]; omega)] at this
            unfold behind
            simpa using this
          rw [← HV.out, hn, if_neg (by simp)])
        go_wp2
        go_ret3
        exact ⟨by rw [HQ.out]; rfl, Kept.refl _ _⟩
  · rw [hst, decide_eq_false hT, if_neg (by simp)] at hV
    have hne : ¬ s.data.toList.take 7 = [36, 115, 104, 97, 114, 101, 47] := hT
    have hneb : (s.data.toList.take 7 != [36, 115, 104, 97, 114, 101, 47]) = true := by simpa using hne
    have hneb2 : (s.data.toList.take 7 == [36, 115, 104, 97, 114, 101, 47]) = false := by simpa using hne
    have HV := Lib.hid hV
    clear hV hst hT
    generalize s.data.toList.take 7 = T at *
    go_enter Tryd.func41, Tryd.ntmps41
    go_wp2
    all_goals
      go_ret3
      exact ⟨by rw [← HV.out]; rfl, Kept.refl _ _⟩

set_option maxRecDepth 100000 in
set_option maxHeartbeats 1000000 in
theorem rfilter_any (s : ByteArray) (w : World) (hs : s.size ≤ 9223372036854775806) :
    Calls Tryd.prog 16 #[.string s] w fun e w' => e = .returned (.bool (filterB s)) ∧ Kept No w w' := by
  have cO := fun wx => refRight_any s wx (by omega)
  generalize hR : filterB s = R
  unfold filterB at hR
  rcases hO : okText s with _ | _
  · rw [hO] at cO hR
    rw [Bool.false_and] at hR
    subst hR
    have HO := Lib.hid cO
    clear cO hO
    go_enter Tryd.func16, Tryd.ntmps16
    go_wp2_with (go_at_call 43; refine (HO.out _).mono ?_; rintro e w1 ⟨rfl, rfl⟩)
    go_ret
    exact ⟨rfl, Kept.refl _ _⟩
  rw [hO] at cO hR
  rw [Bool.true_and] at hR
  have HO := Lib.hid cO
  have hz := okText_size hO
  have cS := fun wx => rshare_any s wx hs
  unfold rshareV at cS
  clear cO hO
  rcases hS : isShare s.data.toList with _ | _
  · rw [hS, if_neg (by simp)] at cS hR
    have HS := Lib.hid cS
    have HL := Lib.hid (fun wx => rplain_any s wx (by omega))
    rw [hR] at HL
    clear cS hS hR
    go_enter Tryd.func16, Tryd.ntmps16
    go_wp2_with (first
      | (go_at_call 43; refine (HO.out _).mono ?_; rintro e w1 ⟨rfl, rfl⟩)
      | (go_at_call 41; refine (HS.out _).mono ?_; rintro e w2 ⟨rfl, hk2⟩)
      | (go_at_call 45; refine (HL.out _).mono ?_; rintro e w3 ⟨rfl, hk3⟩))
    go_ret
    exact ⟨rfl, hk2.trans hk3⟩
  rw [hS, if_pos rfl] at cS hR
  unfold shareB at hR
  rcases hB : (behind s.data.toList).contains 47 with _ | _
  · rw [hB, if_neg (by simp)] at cS
    have hwn := (who_none (behind s.data.toList) (by simpa using hB)).2
    have HR : Hid (R = false) := Lib.hid (by rw [← hR, hwn]; simp [plainL])
    have HS := Lib.hid cS
    clear cS hS hR hB hwn
    go_enter Tryd.func16, Tryd.ntmps16
    go_wp2_with (first
      | (go_at_call 43; refine (HO.out _).mono ?_; rintro e w1 ⟨rfl, rfl⟩)
      | (go_at_call 41; refine (HS.out _).mono ?_; rintro e w2 ⟨rfl, hk2⟩))
    go_ret
    exact ⟨by rw [HR.out]; rfl, hk2⟩
  rw [hB, if_pos rfl] at cS
  have hwl : (whoL (behind s.data.toList)).length ≤ s.data.toList.length := Nat.le_trans (who_le _) (behind_le _)
  have htl : (whatL (behind s.data.toList)).length ≤ s.data.toList.length := Nat.le_trans (what_le _) (behind_le _)
  have cW := fun wx => rwild_any ⟨(whoL (behind s.data.toList)).toArray⟩ wx (by have := size_of_list s _ hwl (by omega); omega)
  have cL := fun wx => rplain_any ⟨(whatL (behind s.data.toList)).toArray⟩ wx (size_of_list s _ htl (by omega))
  rw [show (⟨(whoL (behind s.data.toList)).toArray⟩ : ByteArray).data.toList = whoL (behind s.data.toList) from rfl] at cW
  rw [show (⟨(whatL (behind s.data.toList)).toArray⟩ : ByteArray).data.toList = whatL (behind s.data.toList) from rfl] at cL
  have HS := Lib.hid cS
  clear cS hS hB hwl htl
  generalize whoL (behind s.data.toList) = u at *
  generalize whatL (behind s.data.toList) = v at *
  generalize plainL v = C at *
  have HL := Lib.hid cL
  clear cL
  cases u with
  | nil =>
    have HR : Hid (R = false) := Lib.hid (by rw [← hR]; rfl)
    clear hR cW
    go_enter Tryd.func16, Tryd.ntmps16
    go_wp2_with (first
      | (go_at_call 43; refine (HO.out _).mono ?_; rintro e w1 ⟨rfl, rfl⟩)
      | (go_at_call 41; refine (HS.out _).mono ?_; rintro e w2 ⟨rfl, hk2⟩))
    go_ret
    exact ⟨by rw [HR.out]; rfl, hk2⟩
  | cons c t =>
    rcases hW : wildL (c :: t) with _ | _
    · have HR : Hid (R = C) := Lib.hid (by rw [← hR, hW]; simp)
      rw [hW] at cW
      have HW := Lib.hid cW
      clear hR cW hW
      go_enter Tryd.func16, Tryd.ntmps16
      go_wp2_with (first
        | (go_at_call 43; refine (HO.out _).mono ?_; rintro e w1 ⟨rfl, rfl⟩)
        | (go_at_call 41; refine (HS.out _).mono ?_; rintro e w2 ⟨rfl, hk2⟩)
        | (go_at_call 18; refine (HW.out _).mono ?_; rintro e w3 ⟨rfl, rfl⟩)
        | (go_at_call 45; refine (HL.out _).mono ?_; rintro e w4 ⟨rfl, hk4⟩))
      go_ret
      exact ⟨by rw [HR.out]; rfl, hk2.trans hk4⟩
    · have HR : Hid (R = false) := Lib.hid (by rw [← hR, hW]; simp)
      rw [hW] at cW
      have HW := Lib.hid cW
      clear hR cW hW
      go_enter Tryd.func16, Tryd.ntmps16
      go_wp2_with (first
        | (go_at_call 43; refine (HO.out _).mono ?_; rintro e w1 ⟨rfl, rfl⟩)
        | (go_at_call 41; refine (HS.out _).mono ?_; rintro e w2 ⟨rfl, hk2⟩)
        | (go_at_call 18; refine (HW.out _).mono ?_; rintro e w3 ⟨rfl, rfl⟩))
      go_ret
      exact ⟨by rw [HR.out]; rfl, hk2⟩

end Go.Proofs.YtcacpjdmlcclkaaDoor
