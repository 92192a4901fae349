/-
  Contracts of the document's own text (pouchref04): Shared, Match: made by mkrma.py.
-/
import Derived.Test.YtcacpjdmlcclkaaDoorTopRm
import Derived.Deep.RegionHeld3
import Derived.IntWalk
namespace Go.Proofs.YtcacpjdmlcclkaaDoor
open Go.RowKit
set_option linter.unusedVariables false
set_option linter.unusedSimpArgs false

/-- A share that may be has a slash behind its word. -/
theorem share_slash {s : ByteArray} (hF : filterB s = true) (hS : isShare s.data.toList = true) : (behind s.data.toList).contains 47 = true := by
  unfold filterB shareB at hF
  rw [hS, if_pos rfl] at hF
  simp only [Bool.and_eq_true] at hF
  have hp := plain_ne hF.2.2.2
  cases hc : (behind s.data.toList).contains 47
  · exact absurd (who_none (behind s.data.toList) (by simpa using hc)).2 hp
  · rfl
theorem rshared_any (s : ByteArray) (w : World) (hs : s.size ≤ 9223372036854775806) :
    Calls Tryd.prog 11 #[.string s] w fun e w' => e = .returned (sharedV s) ∧ Kept No w w' := by
  have cS := fun wx => rshare_any s wx hs
  unfold rshareV at cS
  generalize hV : sharedV s = V
  unfold sharedV sharedB at hV
  have cF := fun wx => rfilter_any s wx hs
  rcases hS : isShare s.data.toList with _ | _
  · rw [hS, if_neg (by simp)] at cS
    rw [hS, Bool.false_and, if_neg (by simp)] at hV
    have HV := Lib.hid hV
    have HS := Lib.hid cS
    clear hV cS cF hS
    go_enter Tryd.func11, Tryd.ntmps11
    go_wp2_with (go_at_call 41; refine (HS.out _).mono ?_; rintro e w2 ⟨rfl, hk2⟩)
    go_ret3
    exact ⟨by rw [← HV.out]; rfl, hk2⟩
  rw [hS, if_pos rfl] at cS
  rw [hS, Bool.true_and] at hV
  rcases hF : filterB s with _ | _
  · rw [hF] at cF
    rw [hF, if_neg (by simp)] at hV
    have HV := Lib.hid hV
    have HF := Lib.hid cF
    clear hV cF
    rcases hc : (behind s.data.toList).contains 47 with _ | _
    · rw [hc, if_neg (by simp)] at cS
      have HS := Lib.hid cS
      clear cS hc hS hF
      go_enter Tryd.func11, Tryd.ntmps11
      go_wp2_with (first
        | (go_at_call 41; refine (HS.out _).mono ?_; rintro e w2 ⟨rfl, hk2⟩)
        | (go_at_call 16; refine (HF.out _).mono ?_; rintro e w3 ⟨rfl, hk3⟩))
      go_ret3
      exact ⟨by rw [← HV.out]; rfl, hk2.trans hk3⟩
    · rw [hc, if_pos rfl] at cS
      generalize (⟨(whoL (behind s.data.toList)).toArray⟩ : ByteArray) = u at *
      generalize (⟨(whatL (behind s.data.toList)).toArray⟩ : ByteArray) = v at *
      have HS := Lib.hid cS
      clear cS hc hS hF
      go_enter Tryd.func11, Tryd.ntmps11
      go_wp2_with (first
        | (go_at_call 41; refine (HS.out _).mono ?_; rintro e w2 ⟨rfl, hk2⟩)
        | (go_at_call 16; refine (HF.out _).mono ?_; rintro e w3 ⟨rfl, hk3⟩))
      go_ret3
      exact ⟨by rw [← HV.out]; rfl, hk2.trans hk3⟩
  · have hc := share_slash hF hS
    rw [hF] at cF
    rw [hF, if_pos rfl] at hV
    rw [hc, if_pos rfl] at cS
    generalize (⟨(whoL (behind s.data.toList)).toArray⟩ : ByteArray) = u at *
    generalize (⟨(whatL (behind s.data.toList)).toArray⟩ : ByteArray) = v at *
    have HV := Lib.hid hV
    have HF := Lib.hid cF
    have HS := Lib.hid cS
    clear hV cF cS hc hS hF
    go_enter Tryd.func11, Tryd.ntmps11
    go_wp2_with (first
      | (go_at_call 41; refine (HS.out _).mono ?_; rintro e w2 ⟨rfl, hk2⟩)
      | (go_at_call 16; refine (HF.out _).mono ?_; rintro e w3 ⟨rfl, hk3⟩))
    go_ret3
    exact ⟨by rw [← HV.out]; rfl, hk2.trans hk3⟩

theorem first_eq (s : ByteArray) (h : 0 < s.size) : s.data.toList = s[0] :: s.data.toList.drop 1 := by
  have hl : 0 < s.data.toList.length := by rw [sz_list]; exact h
  have h1 : s.data.toList = s.data.toList[0] :: s.data.toList.drop 1 := by
    have := List.drop_eq_getElem_cons hl
    simpa using this
  have h2 : s.data.toList[0] = s[0] := by simp [ByteArray.getElem_eq_getElem_data] <;> rfl
  rw [h2] at h1
  exact h1
theorem dollar_eq (s : ByteArray) (h : 0 < s.size) : ([36] : List UInt8).isPrefixOf s.data.toList = decide (s[0] = 36) := by
  rw [first_eq s h]
  by_cases hc : s[0] = 36
  · rw [hc]; simp [List.isPrefixOf]
  · rw [decide_eq_false hc]
    simp [List.isPrefixOf]
    exact fun e => hc e.symm
theorem wild1_eq (s : ByteArray) (h : 0 < s.size) : wildL (s.data.toList.take 1) = (decide (s[0] = 43) || decide (s[0] = 35)) := by
  rw [first_eq s h]
  unfold wildL
  simp only [List.take_succ_cons, List.take_zero, List.contains_cons, List.contains_nil, Bool.or_false]
  have e1 : ∀ c : UInt8, (c == s[0]) = decide (s[0] = c) := fun c => by
    by_cases hc : s[0] = c
    · rw [hc]; simp
    · rw [decide_eq_false hc]; simp; exact fun e => hc e.symm
  rw [e1, e1]
theorem byte_beq {x y : UInt8} (h : x = y) : ((x.toNat : Int) == (y.toNat : Int)) = true := by rw [h]; simp
theorem byte_bne {x y : UInt8} (h : x ≠ y) : ((x.toNat : Int) == (y.toNat : Int)) = false := by
  have : x.toNat ≠ y.toNat := fun e => h (UInt8.toNat_inj.1 e)
  simp
  omega

set_option maxRecDepth 100000 in
set_option maxHeartbeats 4000000 in
theorem rmatch_pyes (f n  : ByteArray) (F N : List (List UInt8)) (R : Bool) (w : World)
    (HF : Hid (∀ wx, Calls Tryd.prog 16 #[.string f] wx fun e w' => e = .returned (.bool true) ∧ Kept No wx w'))
    (HN : Hid (∀ wx, Calls Tryd.prog 14 #[.string n] wx fun e w' => e = .returned (.bool true) ∧ Kept No wx w'))
    (HS : Hid (∀ wx, Calls Tryd.prog 41 #[.string f] wx fun e w' => e = .returned (.tuple #[.string ⟨#[]⟩, .string ⟨#[]⟩, .bool false]) ∧ Kept No wx w'))
    (HA : Hid (∀ wx, Calls Tryd.prog 22 #[.string f] wx (RLevIs wx F)))
    (HB2 : Hid (∀ wx, Calls Tryd.prog 22 #[.string n] wx (RLevIs wx N)))
    (hn0 : 0 < n.size) (hg1 : 0 < f.size) (hFl : F.length ≤ 4294967281) (hNl : N.length ≤ 4294967281)
    (h36 : n[0] = 36) (hw : f[0] = 43 ∨ f[0] = 35) (HR : Hid (R = false)) :
    Calls Tryd.prog 20 #[.string f, .string n] w fun e w' => e = .returned (.bool R) ∧ Kept No w w' := by
  have hn0z : (0 : Int) < n.size := by omega
  have hg1z : (0 : Int) < f.size := by omega
  have e36 : ((n[0].toNat : Int) == 36) = true := byte_beq h36
  by_cases h43 : f[0] = 43
  · have e43 : ((f[0].toNat : Int) == 43) = true := byte_beq h43
    clear h36 hw h43
    go_enter Tryd.func20, Tryd.ntmps20
    go_wp2_with (first
      | (go_at_call 16; refine (HF.out _).mono ?_; rintro e w1 ⟨rfl, hk1⟩)
      | (go_at_call 14; refine (HN.out _).mono ?_; rintro e w2 ⟨rfl, hk2⟩)
      | (go_at_call 41; refine (HS.out _).mono ?_; rintro e w3 ⟨rfl, hk3⟩)
      | (go_at_call 22; (with_reducible refine (HA.out _).mono ?_); rintro e w4 ⟨a, c, rfl, hra, hk4⟩)
      | (go_at_call 22; refine (HB2.out _).mono ?_; rintro e w5 ⟨a', c', rfl, hrb, hk5⟩; have hra := hra.keptNo hk5))
    go_ret
    exact ⟨by rw [HR.out]; rfl, (((hk1.trans hk2).trans hk3).trans hk4).trans hk5⟩
  · have e43 : ((f[0].toNat : Int) == 43) = false := byte_bne h43
    have e35 : ((f[0].toNat : Int) == 35) = true := byte_beq (hw.resolve_left h43)
    clear h36 hw h43
    go_enter Tryd.func20, Tryd.ntmps20
    go_wp2_with (first
      | (go_at_call 16; refine (HF.out _).mono ?_; rintro e w1 ⟨rfl, hk1⟩)
      | (go_at_call 14; refine (HN.out _).mono ?_; rintro e w2 ⟨rfl, hk2⟩)
      | (go_at_call 41; refine (HS.out _).mono ?_; rintro e w3 ⟨rfl, hk3⟩)
      | (go_at_call 22; (with_reducible refine (HA.out _).mono ?_); rintro e w4 ⟨a, c, rfl, hra, hk4⟩)
      | (go_at_call 22; refine (HB2.out _).mono ?_; rintro e w5 ⟨a', c', rfl, hrb, hk5⟩; have hra := hra.keptNo hk5))
    go_ret
    exact ⟨by rw [HR.out]; rfl, (((hk1.trans hk2).trans hk3).trans hk4).trans hk5⟩

set_option maxRecDepth 100000 in
set_option maxHeartbeats 4000000 in
theorem rmatch_pno (f n  : ByteArray) (F N : List (List UInt8)) (R : Bool) (w : World)
    (HF : Hid (∀ wx, Calls Tryd.prog 16 #[.string f] wx fun e w' => e = .returned (.bool true) ∧ Kept No wx w'))
    (HN : Hid (∀ wx, Calls Tryd.prog 14 #[.string n] wx fun e w' => e = .returned (.bool true) ∧ Kept No wx w'))
    (HS : Hid (∀ wx, Calls Tryd.prog 41 #[.string f] wx fun e w' => e = .returned (.tuple #[.string ⟨#[]⟩, .string ⟨#[]⟩, .bool false]) ∧ Kept No wx w'))
    (HA : Hid (∀ wx, Calls Tryd.prog 22 #[.string f] wx (RLevIs wx F)))
    (HB2 : Hid (∀ wx, Calls Tryd.prog 22 #[.string n] wx (RLevIs wx N)))
    (hn0 : 0 < n.size) (hg1 : 0 < f.size) (hFl : F.length ≤ 4294967281) (hNl : N.length ≤ 4294967281)
    (hw : n[0] ≠ 36 ∨ (f[0] ≠ 43 ∧ f[0] ≠ 35)) (HR : Hid (coversL F N = R)) :
    Calls Tryd.prog 20 #[.string f, .string n] w fun e w' => e = .returned (.bool R) ∧ Kept No w w' := by
  have hn0z : (0 : Int) < n.size := by omega
  have hg1z : (0 : Int) < f.size := by omega
  by_cases h36 : n[0] = 36
  · have e36 : ((n[0].toNat : Int) == 36) = true := byte_beq h36
    have h4 := hw.resolve_left (fun h => h h36)
    have e43 : ((f[0].toNat : Int) == 43) = false := byte_bne h4.1
    have e35 : ((f[0].toNat : Int) == 35) = false := byte_bne h4.2
    clear h36 hw h4
    go_enter Tryd.func20, Tryd.ntmps20
    go_wp2_with (first
      | (go_at_call 16; refine (HF.out _).mono ?_; rintro e w1 ⟨rfl, hk1⟩)
      | (go_at_call 14; refine (HN.out _).mono ?_; rintro e w2 ⟨rfl, hk2⟩)
      | (go_at_call 41; refine (HS.out _).mono ?_; rintro e w3 ⟨rfl, hk3⟩)
      | (go_at_call 22; (with_reducible refine (HA.out _).mono ?_); rintro e w4 ⟨a, c, rfl, hra, hk4⟩)
      | (go_at_call 22; refine (HB2.out _).mono ?_; rintro e w5 ⟨a', c', rfl, hrb, hk5⟩; have hra := hra.keptNo hk5))
    go_loopw [10] (fun i wr => ∃ j : Nat, i = .int .i64 j ∧ j ≤ F.length ∧ j ≤ N.length ∧ Hid (coversL (F.drop j) (N.drop j) = R) ∧ Kept No w5 wr) (fun i _ => F.length - (intOf i).toNat)
    case atStart => exact ⟨0, rfl, by omega, by omega, Lib.hid (by rw [List.drop_zero, List.drop_zero]; exact HR.out), Kept.refl _ _⟩
    case round =>
      obtain ⟨j, rfl, hj, hjN, HD, hkr⟩ := hrel
      by_cases hlt : j < F.length
      · have HX := Lib.hid (show F.drop j = F[j] :: F.drop (j + 1) from List.drop_eq_getElem_cons hlt)
        obtain ⟨b, off, rfl, hc⟩ := strs_at (hra.keptNo hkr) j hlt
        generalize F[j] = x at *
        by_cases h35 : x = [35]
        · subst h35
          have HQ : Hid (R = true) := Lib.hid (by rw [← HD.out, HX.out, covers_rest])
          go_wp2
          go_ret
          exact ⟨by rw [HQ.out]; rfl, ((((hk1.trans hk2).trans hk3).trans hk4).trans hk5).trans hkr⟩
        · have h35b : (x == [35]) = false := by simpa using h35
          by_cases hNl : j < N.length
          · have HY := Lib.hid (show N.drop j = N[j] :: N.drop (j + 1) from List.drop_eq_getElem_cons hNl)
            obtain ⟨b', off', rfl, hc'⟩ := strs_at (hrb.keptNo hkr) j hNl
            generalize N[j] = y at *
            have hne : decide ((N.length : Int) ≤ (j : Int)) = false := by simp; omega
            have hjI : (j : Int) < N.length := by omega
            have hjF : (j : Int) < F.length := by omega
            have HU : Hid (coversL (F.drop j) (N.drop j) = ((decide (x = [43]) || decide (x = y)) && coversL (F.drop (j + 1)) (N.drop (j + 1)))) := Lib.hid (by rw [HX.out, HY.out, covers_step h35])
            by_cases h43 : x = [43]
            · have HQ : Hid (coversL (F.drop (j + 1)) (N.drop (j + 1)) = R) := Lib.hid (by have := HD.out; rw [HU.out, h43] at this; simpa using this)
              have h43n : (x != [43]) = false := by simpa using h43
              have h43b : (x == [43]) = true := by simpa using h43
              clear h43
              go_wp2
              refine wp_region_held_drew (S := (fun wx => wx.cell? ⟨b, off + j, none⟩ = some (.string ⟨x.toArray⟩) ∧ wx.cell? ⟨b', off' + j, none⟩ = some (.string ⟨y.toArray⟩))) (by kernel_rfl) ?_ (fun hHeld => ?_)
              · exact ⟨hc, hc'⟩
              refine wpAnyH_take (i := 0) (v := ?vvz10) rfl (by kernel_rfl) (by kernel_rfl) (by kernel_rfl) (fun _ _ _ h => h) (Or.inl ⟨by rfl, ?hhz10⟩) (by assumption) ?rrz10
              case hhz10 => (intro wz9 hSw; (try dsimp only at hSw); go_simp; try with_reducible rfl)
              go_simp
              refine wpAnyH_take (i := 1) (v := ?vvz11) rfl (by kernel_rfl) (by kernel_rfl) (by kernel_rfl) (fun _ _ _ h => h) (Or.inl ⟨by rfl, ?hhz11⟩) (by assumption) ?rrz11
              case hhz11 => (intro wz9 hSw; (try dsimp only at hSw); go_simp; try with_reducible rfl)
              go_simp
              refine wpAnyH_take (i := 2) (v := ?vvz12) rfl (by kernel_rfl) (by kernel_rfl) (by kernel_rfl) (fun _ _ _ h => h) (Or.inl ⟨by rfl, ?hhz12⟩) (by assumption) ?rrz12
              case hhz12 => (intro wz9 hSw; (try dsimp only at hSw); go_simp; try with_reducible rfl)
              go_simp
              refine wpAnyH_take (i := 3) (v := (.bool false)) rfl (by kernel_rfl) (by kernel_rfl) (by kernel_rfl) (fun _ _ _ h => h) (Or.inl ⟨by rfl, ?hhz13⟩) (by assumption) ?rrz13
              case hhz13 => (intro wz9 hSw; (try dsimp only at hSw); go_simp; try with_reducible rfl)
              go_simp
              refine wpAnyH_take (i := 4) (v := (.bool false)) rfl (by kernel_rfl) (by kernel_rfl) (by kernel_rfl) (fun _ _ _ h => h) (Or.inl ⟨by rfl, ?hhz14⟩) (by assumption) ?rrz14
              case hhz14 => (intro wz9 hSw; (try dsimp only at hSw); go_simp; try with_reducible rfl)
              go_simp
              refine wpAnyH_take (i := 5) (v := ?vvz15) rfl (by kernel_rfl) (by kernel_rfl) (by kernel_rfl) (fun _ _ _ h => h) (Or.inl ⟨by rfl, ?hhz15⟩) (by assumption) ?rrz15
              case hhz15 => (intro wz9 hSw; (try dsimp only at hSw); go_simp; try with_reducible rfl)
              go_simp
              refine wpAnyH_take (i := 6) (v := ?vvz16) rfl (by kernel_rfl) (by kernel_rfl) (by kernel_rfl) (fun _ _ _ h => h) (Or.inl ⟨by rfl, ?hhz16⟩) (by assumption) ?rrz16
              case hhz16 => (intro wz9 hSw; (try dsimp only at hSw); go_simp; try with_reducible rfl)
              go_simp
              refine wpAnyH_take (i := 7) (v := (.pointer (some ⟨b, off + j, none⟩))) rfl (by kernel_rfl) (by kernel_rfl) (by kernel_rfl) (fun _ _ _ h => h) (Or.inl ⟨by rfl, ?hhz17⟩) (by assumption) ?rrz17
              case hhz17 => (intro wz9 hSw; (try dsimp only at hSw); go_simp; try with_reducible rfl)
              go_simp
              refine wpAnyH_take (i := 8) (v := (.string ⟨x.toArray⟩)) rfl (by kernel_rfl) (by kernel_rfl) (by kernel_rfl) (fun _ _ _ h => h) (Or.inl ⟨by rfl, ?hhz18⟩) (by assumption) ?rrz18
              case hhz18 => (intro wz9 hSw; (try dsimp only at hSw); go_simp; try with_reducible rfl)
              go_simp
              refine wpAnyH_take (i := 9) (v := (.bool false)) rfl (by kernel_rfl) (by kernel_rfl) (by kernel_rfl) (fun _ _ _ h => h) (Or.inl ⟨by rfl, ?hhz19⟩) (by assumption) ?rrz19
              case hhz19 => (intro wz9 hSw; (try dsimp only at hSw); go_simp; try with_reducible rfl)
              go_simp
              refine wpAnyH_take (i := 10) (v := (.bool false)) rfl (by kernel_rfl) (by kernel_rfl) (by kernel_rfl) (fun _ _ _ h => h) (Or.inl ⟨by rfl, ?hhz110⟩) (by assumption) ?rrz110
              case hhz110 => (intro wz9 hSw; (try dsimp only at hSw); go_simp; try with_reducible rfl)
              go_simp
              refine wpAnyH_take (i := 11) (v := undef) rfl (by kernel_rfl) (by kernel_rfl) (by kernel_rfl) (fun _ _ _ h => h) (Or.inr ⟨by rfl, rfl⟩) (by assumption) ?_
              go_simp
              refine wpAnyH_take (i := 12) (v := undef) rfl (by kernel_rfl) (by kernel_rfl) (by kernel_rfl) (fun _ _ _ h => h) (Or.inr ⟨by rfl, rfl⟩) (by assumption) ?_
              go_simp
              refine wpAnyH_take (i := 13) (v := undef) rfl (by kernel_rfl) (by kernel_rfl) (by kernel_rfl) (fun _ _ _ h => h) (Or.inr ⟨by rfl, rfl⟩) (by assumption) ?_
              go_simp
              refine wpAnyH_take (i := 14) (v := undef) rfl (by kernel_rfl) (by kernel_rfl) (by kernel_rfl) (fun _ _ _ h => h) (Or.inr ⟨by rfl, rfl⟩) (by assumption) ?_
              go_simp
              refine wpAnyH_take (i := 15) (v := undef) rfl (by kernel_rfl) (by kernel_rfl) (by kernel_rfl) (fun _ _ _ h => h) (Or.inr ⟨by rfl, rfl⟩) (by assumption) ?_
              go_simp
              refine wpAnyH_take (i := 16) (v := undef) rfl (by kernel_rfl) (by kernel_rfl) (by kernel_rfl) (fun _ _ _ h => h) (Or.inr ⟨by rfl, rfl⟩) (by assumption) ?_
              go_simp
              refine wpAnyH_take (i := 17) (v := undef) rfl (by kernel_rfl) (by kernel_rfl) (by kernel_rfl) (fun _ _ _ h => h) (Or.inr ⟨by rfl, rfl⟩) (by assumption) ?_
              go_simp
              refine wpAnyH_take (i := 18) (v := undef) rfl (by kernel_rfl) (by kernel_rfl) (by kernel_rfl) (fun _ _ _ h => h) (Or.inr ⟨by rfl, rfl⟩) (by assumption) ?_
              go_simp
              refine wpAnyH_take (i := 19) (v := undef) rfl (by kernel_rfl) (by kernel_rfl) (by kernel_rfl) (fun _ _ _ h => h) (Or.inr ⟨by rfl, rfl⟩) (by assumption) ?_
              go_simp
              refine wpAnyH_take (i := 20) (v := (.bool false)) rfl (by kernel_rfl) (by kernel_rfl) (by kernel_rfl) (fun _ _ _ h => h) (Or.inl ⟨by rfl, ?hhz120⟩) (by assumption) ?rrz120
              case hhz120 => (intro wz9 hSw; (try dsimp only at hSw); go_simp; try with_reducible rfl)
              go_simp
              refine wpAnyH_take (i := 21) (v := (.bool false)) rfl (by kernel_rfl) (by kernel_rfl) (by kernel_rfl) (fun _ _ _ h => h) (Or.inl ⟨by rfl, ?hhz121⟩) (by assumption) ?rrz121
              case hhz121 => (intro wz9 hSw; (try dsimp only at hSw); go_simp; try with_reducible rfl)
              go_simp
              refine wpAnyH_done (by kernel_rfl) ?_ _
              go_wp2
              go_roundw
              case rel => exact ⟨j + 1, by go_num, by omega, by omega, HQ, hkr.drew⟩
              case measure => simp [intOf]; omega
            · have h43b : (x == [43]) = false := by simpa using h43
              have h43n : (x != [43]) = true := by simpa using h43
              by_cases hxy : x = y
              · have HQ : Hid (coversL (F.drop (j + 1)) (N.drop (j + 1)) = R) := Lib.hid (by have := HD.out; rw [HU.out, hxy] at this; simpa using this)
                have hxyn : (x != y) = false := by simpa using hxy
                have hxyb : (x == y) = true := by simpa using hxy
                clear hxy h43
                go_wp2
                refine wp_region_held_drew (S := (fun wx => wx.cell? ⟨b, off + j, none⟩ = some (.string ⟨x.toArray⟩) ∧ wx.cell? ⟨b', off' + j, none⟩ = some (.string ⟨y.toArray⟩))) (by kernel_rfl) ?_ (fun hHeld => ?_)
                · exact ⟨hc, hc'⟩
                refine wpAnyH_take (i := 0) (v := ?vvz20) rfl (by kernel_rfl) (by kernel_rfl) (by kernel_rfl) (fun _ _ _ h => h) (Or.inl ⟨by rfl, ?hhz20⟩) (by assumption) ?rrz20
                case hhz20 => (intro wz9 hSw; (try dsimp only at hSw); go_simp; try with_reducible rfl)
                go_simp
                refine wpAnyH_take (i := 1) (v := ?vvz21) rfl (by kernel_rfl) (by kernel_rfl) (by kernel_rfl) (fun _ _ _ h => h) (Or.inl ⟨by rfl, ?hhz21⟩) (by assumption) ?rrz21
                case hhz21 => (intro wz9 hSw; (try dsimp only at hSw); go_simp; try with_reducible rfl)
                go_simp
                refine wpAnyH_take (i := 2) (v := ?vvz22) rfl (by kernel_rfl) (by kernel_rfl) (by kernel_rfl) (fun _ _ _ h => h) (Or.inl ⟨by rfl, ?hhz22⟩) (by assumption) ?rrz22
                case hhz22 => (intro wz9 hSw; (try dsimp only at hSw); go_simp; try with_reducible rfl)
                go_simp
                refine wpAnyH_take (i := 3) (v := (.bool false)) rfl (by kernel_rfl) (by kernel_rfl) (by kernel_rfl) (fun _ _ _ h => h) (Or.inl ⟨by rfl, ?hhz23⟩) (by assumption) ?rrz23
                case hhz23 => (intro wz9 hSw; (try dsimp only at hSw); go_simp; try with_reducible rfl)
                go_simp
                refine wpAnyH_take (i := 4) (v := (.bool false)) rfl (by kernel_rfl) (by kernel_rfl) (by kernel_rfl) (fun _ _ _ h => h) (Or.inl ⟨by rfl, ?hhz24⟩) (by assumption) ?rrz24
                case hhz24 => (intro wz9 hSw; (try dsimp only at hSw); go_simp; try with_reducible rfl)
                go_simp
                refine wpAnyH_take (i := 5) (v := ?vvz25) rfl (by kernel_rfl) (by kernel_rfl) (by kernel_rfl) (fun _ _ _ h => h) (Or.inl ⟨by rfl, ?hhz25⟩) (by assumption) ?rrz25
                case hhz25 => (intro wz9 hSw; (try dsimp only at hSw); go_simp; try with_reducible rfl)
                go_simp
                refine wpAnyH_take (i := 6) (v := ?vvz26) rfl (by kernel_rfl) (by kernel_rfl) (by kernel_rfl) (fun _ _ _ h => h) (Or.inl ⟨by rfl, ?hhz26⟩) (by assumption) ?rrz26
                case hhz26 => (intro wz9 hSw; (try dsimp only at hSw); go_simp; try with_reducible rfl)
                go_simp
                refine wpAnyH_take (i := 7) (v := (.pointer (some ⟨b, off + j, none⟩))) rfl (by kernel_rfl) (by kernel_rfl) (by kernel_rfl) (fun _ _ _ h => h) (Or.inl ⟨by rfl, ?hhz27⟩) (by assumption) ?rrz27
                case hhz27 => (intro wz9 hSw; (try dsimp only at hSw); go_simp; try with_reducible rfl)
                go_simp
                refine wpAnyH_take (i := 8) (v := (.string ⟨x.toArray⟩)) rfl (by kernel_rfl) (by kernel_rfl) (by kernel_rfl) (fun _ _ _ h => h) (Or.inl ⟨by rfl, ?hhz28⟩) (by assumption) ?rrz28
                case hhz28 => (intro wz9 hSw; (try dsimp only at hSw); go_simp; try with_reducible rfl)
                go_simp
                refine wpAnyH_take (i := 9) (v := (.bool true)) rfl (by kernel_rfl) (by kernel_rfl) (by kernel_rfl) (fun _ _ _ h => h) (Or.inl ⟨by rfl, ?hhz29⟩) (by assumption) ?rrz29
                case hhz29 => (intro wz9 hSw; (try dsimp only at hSw); go_simp; try with_reducible rfl)
                go_simp
                refine wpAnyH_take (i := 10) (v := (.bool true)) rfl (by kernel_rfl) (by kernel_rfl) (by kernel_rfl) (fun _ _ _ h => h) (Or.inl ⟨by rfl, ?hhz210⟩) (by assumption) ?rrz210
                case hhz210 => (intro wz9 hSw; (try dsimp only at hSw); go_simp; try with_reducible rfl)
                go_simp
                refine wpAnyH_take (i := 11) (v := ?vvz211) rfl (by kernel_rfl) (by kernel_rfl) (by kernel_rfl) (fun _ _ _ h => h) (Or.inl ⟨by rfl, ?hhz211⟩) (by assumption) ?rrz211
                case hhz211 => (intro wz9 hSw; (try dsimp only at hSw); go_simp; try with_reducible rfl)
                go_simp
                refine wpAnyH_take (i := 12) (v := ?vvz212) rfl (by kernel_rfl) (by kernel_rfl) (by kernel_rfl) (fun _ _ _ h => h) (Or.inl ⟨by rfl, ?hhz212⟩) (by assumption) ?rrz212
                case hhz212 => (intro wz9 hSw; (try dsimp only at hSw); go_simp; try with_reducible rfl)
                go_simp
                refine wpAnyH_take (i := 13) (v := (.pointer (some ⟨b, off + j, none⟩))) rfl (by kernel_rfl) (by kernel_rfl) (by kernel_rfl) (fun _ _ _ h => h) (Or.inl ⟨by rfl, ?hhz213⟩) (by assumption) ?rrz213
                case hhz213 => (intro wz9 hSw; (try dsimp only at hSw); go_simp; try with_reducible rfl)
                go_simp
                refine wpAnyH_take (i := 14) (v := (.string ⟨x.toArray⟩)) rfl (by kernel_rfl) (by kernel_rfl) (by kernel_rfl) (fun _ _ _ h => h) (Or.inl ⟨by rfl, ?hhz214⟩) (by assumption) ?rrz214
                case hhz214 => (intro wz9 hSw; (try dsimp only at hSw); go_simp; try with_reducible rfl)
                go_simp
                refine wpAnyH_take (i := 15) (v := ?vvz215) rfl (by kernel_rfl) (by kernel_rfl) (by kernel_rfl) (fun _ _ _ h => h) (Or.inl ⟨by rfl, ?hhz215⟩) (by assumption) ?rrz215
                case hhz215 => (intro wz9 hSw; (try dsimp only at hSw); go_simp; try with_reducible rfl)
                go_simp
                refine wpAnyH_take (i := 16) (v := ?vvz216) rfl (by kernel_rfl) (by kernel_rfl) (by kernel_rfl) (fun _ _ _ h => h) (Or.inl ⟨by rfl, ?hhz216⟩) (by assumption) ?rrz216
                case hhz216 => (intro wz9 hSw; (try dsimp only at hSw); go_simp; try with_reducible rfl)
                go_simp
                refine wpAnyH_take (i := 17) (v := (.pointer (some ⟨b', off' + j, none⟩))) rfl (by kernel_rfl) (by kernel_rfl) (by kernel_rfl) (fun _ _ _ h => h) (Or.inl ⟨by rfl, ?hhz217⟩) (by assumption) ?rrz217
                case hhz217 => (intro wz9 hSw; (try dsimp only at hSw); go_simp; try with_reducible rfl)
                go_simp
                refine wpAnyH_take (i := 18) (v := (.string ⟨y.toArray⟩)) rfl (by kernel_rfl) (by kernel_rfl) (by kernel_rfl) (fun _ _ _ h => h) (Or.inl ⟨by rfl, ?hhz218⟩) (by assumption) ?rrz218
                case hhz218 => (intro wz9 hSw; (try dsimp only at hSw); go_simp; try with_reducible rfl)
                go_simp
                refine wpAnyH_take (i := 19) (v := (.bool false)) rfl (by kernel_rfl) (by kernel_rfl) (by kernel_rfl) (fun _ _ _ h => h) (Or.inl ⟨by rfl, ?hhz219⟩) (by assumption) ?rrz219
                case hhz219 => (intro wz9 hSw; (try dsimp only at hSw); go_simp; try with_reducible rfl)
                go_simp
                refine wpAnyH_take (i := 20) (v := (.bool false)) rfl (by kernel_rfl) (by kernel_rfl) (by kernel_rfl) (fun _ _ _ h => h) (Or.inl ⟨by rfl, ?hhz220⟩) (by assumption) ?rrz220
                case hhz220 => (intro wz9 hSw; (try dsimp only at hSw); go_simp; try with_reducible rfl)
                go_simp
                refine wpAnyH_take (i := 21) (v := (.bool false)) rfl (by kernel_rfl) (by kernel_rfl) (by kernel_rfl) (fun _ _ _ h => h) (Or.inl ⟨by rfl, ?hhz221⟩) (by assumption) ?rrz221
                case hhz221 => (intro wz9 hSw; (try dsimp only at hSw); go_simp; try with_reducible rfl)
                go_simp
                refine wpAnyH_done (by kernel_rfl) ?_ _
                go_wp2
                go_roundw
                case rel => exact ⟨j + 1, by go_num, by omega, by omega, HQ, hkr.drew⟩
                case measure => simp [intOf]; omega
              · have HQ : Hid (R = false) := Lib.hid (by have := HD.out; rw [HU.out] at this; simpa [h43, hxy] using this.symm)
                have hxyb : (x == y) = false := by simpa using hxy
                have hxyn : (x != y) = true := by simpa using hxy
                clear hxy h43
                go_wp2
                refine wp_region_held_drew (S := (fun wx => wx.cell? ⟨b, off + j, none⟩ = some (.string ⟨x.toArray⟩) ∧ wx.cell? ⟨b', off' + j, none⟩ = some (.string ⟨y.toArray⟩))) (by kernel_rfl) ?_ (fun hHeld => ?_)
                · exact ⟨hc, hc'⟩
                refine wpAnyH_take (i := 0) (v := ?vvz30) rfl (by kernel_rfl) (by kernel_rfl) (by kernel_rfl) (fun _ _ _ h => h) (Or.inl ⟨by rfl, ?hhz30⟩) (by assumption) ?rrz30
                case hhz30 => (intro wz9 hSw; (try dsimp only at hSw); go_simp; try with_reducible rfl)
                go_simp
                refine wpAnyH_take (i := 1) (v := ?vvz31) rfl (by kernel_rfl) (by kernel_rfl) (by kernel_rfl) (fun _ _ _ h => h) (Or.inl ⟨by rfl, ?hhz31⟩) (by assumption) ?rrz31
                case hhz31 => (intro wz9 hSw; (try dsimp only at hSw); go_simp; try with_reducible rfl)
                go_simp
                refine wpAnyH_take (i := 2) (v := ?vvz32) rfl (by kernel_rfl) (by kernel_rfl) (by kernel_rfl) (fun _ _ _ h => h) (Or.inl ⟨by rfl, ?hhz32⟩) (by assumption) ?rrz32
                case hhz32 => (intro wz9 hSw; (try dsimp only at hSw); go_simp; try with_reducible rfl)
                go_simp
                refine wpAnyH_take (i := 3) (v := (.bool false)) rfl (by kernel_rfl) (by kernel_rfl) (by kernel_rfl) (fun _ _ _ h => h) (Or.inl ⟨by rfl, ?hhz33⟩) (by assumption) ?rrz33
                case hhz33 => (intro wz9 hSw; (try dsimp only at hSw); go_simp; try with_reducible rfl)
                go_simp
                refine wpAnyH_take (i := 4) (v := (.bool false)) rfl (by kernel_rfl) (by kernel_rfl) (by kernel_rfl) (fun _ _ _ h => h) (Or.inl ⟨by rfl, ?hhz34⟩) (by assumption) ?rrz34
                case hhz34 => (intro wz9 hSw; (try dsimp only at hSw); go_simp; try with_reducible rfl)
                go_simp
                refine wpAnyH_take (i := 5) (v := ?vvz35) rfl (by kernel_rfl) (by kernel_rfl) (by kernel_rfl) (fun _ _ _ h => h) (Or.inl ⟨by rfl, ?hhz35⟩) (by assumption) ?rrz35
                case hhz35 => (intro wz9 hSw; (try dsimp only at hSw); go_simp; try with_reducible rfl)
                go_simp
                refine wpAnyH_take (i := 6) (v := ?vvz36) rfl (by kernel_rfl) (by kernel_rfl) (by kernel_rfl) (fun _ _ _ h => h) (Or.inl ⟨by rfl, ?hhz36⟩) (by assumption) ?rrz36
                case hhz36 => (intro wz9 hSw; (try dsimp only at hSw); go_simp; try with_reducible rfl)
                go_simp
                refine wpAnyH_take (i := 7) (v := (.pointer (some ⟨b, off + j, none⟩))) rfl (by kernel_rfl) (by kernel_rfl) (by kernel_rfl) (fun _ _ _ h => h) (Or.inl ⟨by rfl, ?hhz37⟩) (by assumption) ?rrz37
                case hhz37 => (intro wz9 hSw; (try dsimp only at hSw); go_simp; try with_reducible rfl)
                go_simp
                refine wpAnyH_take (i := 8) (v := (.string ⟨x.toArray⟩)) rfl (by kernel_rfl) (by kernel_rfl) (by kernel_rfl) (fun _ _ _ h => h) (Or.inl ⟨by rfl, ?hhz38⟩) (by assumption) ?rrz38
                case hhz38 => (intro wz9 hSw; (try dsimp only at hSw); go_simp; try with_reducible rfl)
                go_simp
                refine wpAnyH_take (i := 9) (v := (.bool true)) rfl (by kernel_rfl) (by kernel_rfl) (by kernel_rfl) (fun _ _ _ h => h) (Or.inl ⟨by rfl, ?hhz39⟩) (by assumption) ?rrz39
                case hhz39 => (intro wz9 hSw; (try dsimp only at hSw); go_simp; try with_reducible rfl)
                go_simp
                refine wpAnyH_take (i := 10) (v := (.bool true)) rfl (by kernel_rfl) (by kernel_rfl) (by kernel_rfl) (fun _ _ _ h => h) (Or.inl ⟨by rfl, ?hhz310⟩) (by assumption) ?rrz310
                case hhz310 => (intro wz9 hSw; (try dsimp only at hSw); go_simp; try with_reducible rfl)
                go_simp
                refine wpAnyH_take (i := 11) (v := ?vvz311) rfl (by kernel_rfl) (by kernel_rfl) (by kernel_rfl) (fun _ _ _ h => h) (Or.inl ⟨by rfl, ?hhz311⟩) (by assumption) ?rrz311
                case hhz311 => (intro wz9 hSw; (try dsimp only at hSw); go_simp; try with_reducible rfl)
                go_simp
                refine wpAnyH_take (i := 12) (v := ?vvz312) rfl (by kernel_rfl) (by kernel_rfl) (by kernel_rfl) (fun _ _ _ h => h) (Or.inl ⟨by rfl, ?hhz312⟩) (by assumption) ?rrz312
                case hhz312 => (intro wz9 hSw; (try dsimp only at hSw); go_simp; try with_reducible rfl)
                go_simp
                refine wpAnyH_take (i := 13) (v := (.pointer (some ⟨b, off + j, none⟩))) rfl (by kernel_rfl) (by kernel_rfl) (by kernel_rfl) (fun _ _ _ h => h) (Or.inl ⟨by rfl, ?hhz313⟩) (by assumption) ?rrz313
                case hhz313 => (intro wz9 hSw; (try dsimp only at hSw); go_simp; try with_reducible rfl)
                go_simp
                refine wpAnyH_take (i := 14) (v := (.string ⟨x.toArray⟩)) rfl (by kernel_rfl) (by kernel_rfl) (by kernel_rfl) (fun _ _ _ h => h) (Or.inl ⟨by rfl, ?hhz314⟩) (by assumption) ?rrz314
                case hhz314 => (intro wz9 hSw; (try dsimp only at hSw); go_simp; try with_reducible rfl)
                go_simp
                refine wpAnyH_take (i := 15) (v := ?vvz315) rfl (by kernel_rfl) (by kernel_rfl) (by kernel_rfl) (fun _ _ _ h => h) (Or.inl ⟨by rfl, ?hhz315⟩) (by assumption) ?rrz315
                case hhz315 => (intro wz9 hSw; (try dsimp only at hSw); go_simp; try with_reducible rfl)
                go_simp
                refine wpAnyH_take (i := 16) (v := ?vvz316) rfl (by kernel_rfl) (by kernel_rfl) (by kernel_rfl) (fun _ _ _ h => h) (Or.inl ⟨by rfl, ?hhz316⟩) (by assumption) ?rrz316
                case hhz316 => (intro wz9 hSw; (try dsimp only at hSw); go_simp; try with_reducible rfl)
                go_simp
                refine wpAnyH_take (i := 17) (v := (.pointer (some ⟨b', off' + j, none⟩))) rfl (by kernel_rfl) (by kernel_rfl) (by kernel_rfl) (fun _ _ _ h => h) (Or.inl ⟨by rfl, ?hhz317⟩) (by assumption) ?rrz317
                case hhz317 => (intro wz9 hSw; (try dsimp only at hSw); go_simp; try with_reducible rfl)
                go_simp
                refine wpAnyH_take (i := 18) (v := (.string ⟨y.toArray⟩)) rfl (by kernel_rfl) (by kernel_rfl) (by kernel_rfl) (fun _ _ _ h => h) (Or.inl ⟨by rfl, ?hhz318⟩) (by assumption) ?rrz318
                case hhz318 => (intro wz9 hSw; (try dsimp only at hSw); go_simp; try with_reducible rfl)
                go_simp
                refine wpAnyH_take (i := 19) (v := (.bool true)) rfl (by kernel_rfl) (by kernel_rfl) (by kernel_rfl) (fun _ _ _ h => h) (Or.inl ⟨by rfl, ?hhz319⟩) (by assumption) ?rrz319
                case hhz319 => (intro wz9 hSw; (try dsimp only at hSw); go_simp; try with_reducible rfl)
                go_simp
                refine wpAnyH_take (i := 20) (v := (.bool true)) rfl (by kernel_rfl) (by kernel_rfl) (by kernel_rfl) (fun _ _ _ h => h) (Or.inl ⟨by rfl, ?hhz320⟩) (by assumption) ?rrz320
                case hhz320 => (intro wz9 hSw; (try dsimp only at hSw); go_simp; try with_reducible rfl)
                go_simp
                refine wpAnyH_take (i := 21) (v := (.bool true)) rfl (by kernel_rfl) (by kernel_rfl) (by kernel_rfl) (fun _ _ _ h => h) (Or.inl ⟨by rfl, ?hhz321⟩) (by assumption) ?rrz321
                case hhz321 => (intro wz9 hSw; (try dsimp only at hSw); go_simp; try with_reducible rfl)
                go_simp
                refine wpAnyH_done (by kernel_rfl) ?_ _
                go_wp2
                go_ret
                exact ⟨by rw [HQ.out]; rfl, ((((hk1.trans hk2).trans hk3).trans hk4).trans hk5).trans (hkr.drew)⟩
          · have hje : decide ((N.length : Int) ≤ (j : Int)) = true := by simp; omega
            have hjI : (N.length : Int) ≤ j := by omega
            have HQ : Hid (R = false) := Lib.hid (by rw [← HD.out, HX.out, show N.drop j = [] from List.drop_of_length_le (by omega), covers_end h35])
            go_wp2
            refine wp_region_held_drew (S := (fun wx => wx.cell? ⟨b, off + j, none⟩ = some (.string ⟨x.toArray⟩))) (by kernel_rfl) ?_ (fun hHeld => ?_)
            · exact hc
            refine wpAnyH_take (i := 0) (v := ?vvz40) rfl (by kernel_rfl) (by kernel_rfl) (by kernel_rfl) (fun _ _ _ h => h) (Or.inl ⟨by rfl, ?hhz40⟩) (by assumption) ?rrz40
            case hhz40 => (intro wz9 hSw; (try dsimp only at hSw); go_simp; try with_reducible rfl)
            go_simp
            refine wpAnyH_take (i := 1) (v := ?vvz41) rfl (by kernel_rfl) (by kernel_rfl) (by kernel_rfl) (fun _ _ _ h => h) (Or.inl ⟨by rfl, ?hhz41⟩) (by assumption) ?rrz41
            case hhz41 => (intro wz9 hSw; (try dsimp only at hSw); go_simp; try with_reducible rfl)
            go_simp
            refine wpAnyH_take (i := 2) (v := ?vvz42) rfl (by kernel_rfl) (by kernel_rfl) (by kernel_rfl) (fun _ _ _ h => h) (Or.inl ⟨by rfl, ?hhz42⟩) (by assumption) ?rrz42
            case hhz42 => (intro wz9 hSw; (try dsimp only at hSw); go_simp; try with_reducible rfl)
            go_simp
            refine wpAnyH_take (i := 3) (v := (.bool true)) rfl (by kernel_rfl) (by kernel_rfl) (by kernel_rfl) (fun _ _ _ h => h) (Or.inl ⟨by rfl, ?hhz43⟩) (by assumption) ?rrz43
            case hhz43 => (intro wz9 hSw; (try dsimp only at hSw); go_simp; try with_reducible rfl)
            go_simp
            refine wpAnyH_take (i := 4) (v := (.bool true)) rfl (by kernel_rfl) (by kernel_rfl) (by kernel_rfl) (fun _ _ _ h => h) (Or.inl ⟨by rfl, ?hhz44⟩) (by assumption) ?rrz44
            case hhz44 => (intro wz9 hSw; (try dsimp only at hSw); go_simp; try with_reducible rfl)
            go_simp
            refine wpAnyH_take (i := 5) (v := undef) rfl (by kernel_rfl) (by kernel_rfl) (by kernel_rfl) (fun _ _ _ h => h) (Or.inr ⟨by rfl, rfl⟩) (by assumption) ?_
            go_simp
            refine wpAnyH_take (i := 6) (v := undef) rfl (by kernel_rfl) (by kernel_rfl) (by kernel_rfl) (fun _ _ _ h => h) (Or.inr ⟨by rfl, rfl⟩) (by assumption) ?_
            go_simp
            refine wpAnyH_take (i := 7) (v := undef) rfl (by kernel_rfl) (by kernel_rfl) (by kernel_rfl) (fun _ _ _ h => h) (Or.inr ⟨by rfl, rfl⟩) (by assumption) ?_
            go_simp
            refine wpAnyH_take (i := 8) (v := undef) rfl (by kernel_rfl) (by kernel_rfl) (by kernel_rfl) (fun _ _ _ h => h) (Or.inr ⟨by rfl, rfl⟩) (by assumption) ?_
            go_simp
            refine wpAnyH_take (i := 9) (v := undef) rfl (by kernel_rfl) (by kernel_rfl) (by kernel_rfl) (fun _ _ _ h => h) (Or.inr ⟨by rfl, rfl⟩) (by assumption) ?_
            go_simp
            refine wpAnyH_take (i := 10) (v := undef) rfl (by kernel_rfl) (by kernel_rfl) (by kernel_rfl) (fun _ _ _ h => h) (Or.inr ⟨by rfl, rfl⟩) (by assumption) ?_
            go_simp
            refine wpAnyH_take (i := 11) (v := undef) rfl (by kernel_rfl) (by kernel_rfl) (by kernel_rfl) (fun _ _ _ h => h) (Or.inr ⟨by rfl, rfl⟩) (by assumption) ?_
            go_simp
            refine wpAnyH_take (i := 12) (v := undef) rfl (by kernel_rfl) (by kernel_rfl) (by kernel_rfl) (fun _ _ _ h => h) (Or.inr ⟨by rfl, rfl⟩) (by assumption) ?_
            go_simp
            refine wpAnyH_take (i := 13) (v := undef) rfl (by kernel_rfl) (by kernel_rfl) (by kernel_rfl) (fun _ _ _ h => h) (Or.inr ⟨by rfl, rfl⟩) (by assumption) ?_
            go_simp
            refine wpAnyH_take (i := 14) (v := undef) rfl (by kernel_rfl) (by kernel_rfl) (by kernel_rfl) (fun _ _ _ h => h) (Or.inr ⟨by rfl, rfl⟩) (by assumption) ?_
            go_simp
            refine wpAnyH_take (i := 15) (v := undef) rfl (by kernel_rfl) (by kernel_rfl) (by kernel_rfl) (fun _ _ _ h => h) (Or.inr ⟨by rfl, rfl⟩) (by assumption) ?_
            go_simp
            refine wpAnyH_take (i := 16) (v := undef) rfl (by kernel_rfl) (by kernel_rfl) (by kernel_rfl) (fun _ _ _ h => h) (Or.inr ⟨by rfl, rfl⟩) (by assumption) ?_
            go_simp
            refine wpAnyH_take (i := 17) (v := undef) rfl (by kernel_rfl) (by kernel_rfl) (by kernel_rfl) (fun _ _ _ h => h) (Or.inr ⟨by rfl, rfl⟩) (by assumption) ?_
            go_simp
            refine wpAnyH_take (i := 18) (v := undef) rfl (by kernel_rfl) (by kernel_rfl) (by kernel_rfl) (fun _ _ _ h => h) (Or.inr ⟨by rfl, rfl⟩) (by assumption) ?_
            go_simp
            refine wpAnyH_take (i := 19) (v := undef) rfl (by kernel_rfl) (by kernel_rfl) (by kernel_rfl) (fun _ _ _ h => h) (Or.inr ⟨by rfl, rfl⟩) (by assumption) ?_
            go_simp
            refine wpAnyH_take (i := 20) (v := undef) rfl (by kernel_rfl) (by kernel_rfl) (by kernel_rfl) (fun _ _ _ h => h) (Or.inr ⟨by rfl, rfl⟩) (by assumption) ?_
            go_simp
            refine wpAnyH_take (i := 21) (v := (.bool true)) rfl (by kernel_rfl) (by kernel_rfl) (by kernel_rfl) (fun _ _ _ h => h) (Or.inl ⟨by rfl, ?hhz421⟩) (by assumption) ?rrz421
            case hhz421 => (intro wz9 hSw; (try dsimp only at hSw); go_simp; try with_reducible rfl)
            go_simp
            refine wpAnyH_done (by kernel_rfl) ?_ _
            go_wp2
            go_ret
            exact ⟨by rw [HQ.out]; rfl, ((((hk1.trans hk2).trans hk3).trans hk4).trans hk5).trans (hkr.drew)⟩
      · have hF0 : F.drop j = [] := List.drop_of_length_le (by omega)
        have HQ : Hid (R = decide (F.length = N.length)) := Lib.hid (by
          rw [← HD.out, hF0, coversL]
          by_cases he : F.length = N.length
          · rw [List.drop_of_length_le (by omega), decide_eq_true he]; rfl
          · rw [decide_eq_false he]
            cases hd : N.drop j with
            | nil => have := congrArg List.length hd; simp at this; omega
            | cons _ _ => rfl)
        have HB : Hid (((F.length : Int) == (N.length : Int)) = decide (F.length = N.length)) := Lib.hid (by
          by_cases he : F.length = N.length
          · rw [decide_eq_true he]; simp [he]
          · rw [decide_eq_false he]; simp; omega)
        clear hF0
        go_wp2
        go_ret
        exact ⟨by rw [HQ.out, ← HB.out]; rfl, ((((hk1.trans hk2).trans hk3).trans hk4).trans hk5).trans hkr⟩
  · have e36 : ((n[0].toNat : Int) == 36) = false := byte_bne h36
    clear h36 hw
    go_enter Tryd.func20, Tryd.ntmps20
    go_wp2_with (first
      | (go_at_call 16; refine (HF.out _).mono ?_; rintro e w1 ⟨rfl, hk1⟩)
      | (go_at_call 14; refine (HN.out _).mono ?_; rintro e w2 ⟨rfl, hk2⟩)
      | (go_at_call 41; refine (HS.out _).mono ?_; rintro e w3 ⟨rfl, hk3⟩)
      | (go_at_call 22; (with_reducible refine (HA.out _).mono ?_); rintro e w4 ⟨a, c, rfl, hra, hk4⟩)
      | (go_at_call 22; refine (HB2.out _).mono ?_; rintro e w5 ⟨a', c', rfl, hrb, hk5⟩; have hra := hra.keptNo hk5))
    go_loopw [10] (fun i wr => ∃ j : Nat, i = .int .i64 j ∧ j ≤ F.length ∧ j ≤ N.length ∧ Hid (coversL (F.drop j) (N.drop j) = R) ∧ Kept No w5 wr) (fun i _ => F.length - (intOf i).toNat)
    case atStart => exact ⟨0, rfl, by omega, by omega, Lib.hid (by rw [List.drop_zero, List.drop_zero]; exact HR.out), Kept.refl _ _⟩
    case round =>
      obtain ⟨j, rfl, hj, hjN, HD, hkr⟩ := hrel
      by_cases hlt : j < F.length
      · have HX := Lib.hid (show F.drop j = F[j] :: F.drop (j + 1) from List.drop_eq_getElem_cons hlt)
        obtain ⟨b, off, rfl, hc⟩ := strs_at (hra.keptNo hkr) j hlt
        generalize F[j] = x at *
        by_cases h35 : x = [35]
        · subst h35
          have HQ : Hid (R = true) := Lib.hid (by rw [← HD.out, HX.out, covers_rest])
          go_wp2
          go_ret
          exact ⟨by rw [HQ.out]; rfl, ((((hk1.trans hk2).trans hk3).trans hk4).trans hk5).trans hkr⟩
        · have h35b : (x == [35]) = false := by simpa using h35
          by_cases hNl : j < N.length
          · have HY := Lib.hid (show N.drop j = N[j] :: N.drop (j + 1) from List.drop_eq_getElem_cons hNl)
            obtain ⟨b', off', rfl, hc'⟩ := strs_at (hrb.keptNo hkr) j hNl
            generalize N[j] = y at *
            have hne : decide ((N.length : Int) ≤ (j : Int)) = false := by simp; omega
            have hjI : (j : Int) < N.length := by omega
            have hjF : (j : Int) < F.length := by omega
            have HU : Hid (coversL (F.drop j) (N.drop j) = ((decide (x = [43]) || decide (x = y)) && coversL (F.drop (j + 1)) (N.drop (j + 1)))) := Lib.hid (by rw [HX.out, HY.out, covers_step h35])
            by_cases h43 : x = [43]
            · have HQ : Hid (coversL (F.drop (j + 1)) (N.drop (j + 1)) = R) := Lib.hid (by have := HD.out; rw [HU.out, h43] at this; simpa using this)
              have h43n : (x != [43]) = false := by simpa using h43
              have h43b : (x == [43]) = true := by simpa using h43
              clear h43
              go_wp2
              refine wp_region_held_drew (S := (fun wx => wx.cell? ⟨b, off + j, none⟩ = some (.string ⟨x.toArray⟩) ∧ wx.cell? ⟨b', off' + j, none⟩ = some (.string ⟨y.toArray⟩))) (by kernel_rfl) ?_ (fun hHeld => ?_)
              · exact ⟨hc, hc'⟩
              refine wpAnyH_take (i := 0) (v := ?vvz50) rfl (by kernel_rfl) (by kernel_rfl) (by kernel_rfl) (fun _ _ _ h => h) (Or.inl ⟨by rfl, ?hhz50⟩) (by assumption) ?rrz50
              case hhz50 => (intro wz9 hSw; (try dsimp only at hSw); go_simp; try with_reducible rfl)
              go_simp
              refine wpAnyH_take (i := 1) (v := ?vvz51) rfl (by kernel_rfl) (by kernel_rfl) (by kernel_rfl) (fun _ _ _ h => h) (Or.inl ⟨by rfl, ?hhz51⟩) (by assumption) ?rrz51
              case hhz51 => (intro wz9 hSw; (try dsimp only at hSw); go_simp; try with_reducible rfl)
              go_simp
              refine wpAnyH_take (i := 2) (v := ?vvz52) rfl (by kernel_rfl) (by kernel_rfl) (by kernel_rfl) (fun _ _ _ h => h) (Or.inl ⟨by rfl, ?hhz52⟩) (by assumption) ?rrz52
              case hhz52 => (intro wz9 hSw; (try dsimp only at hSw); go_simp; try with_reducible rfl)
              go_simp
              refine wpAnyH_take (i := 3) (v := (.bool false)) rfl (by kernel_rfl) (by kernel_rfl) (by kernel_rfl) (fun _ _ _ h => h) (Or.inl ⟨by rfl, ?hhz53⟩) (by assumption) ?rrz53
              case hhz53 => (intro wz9 hSw; (try dsimp only at hSw); go_simp; try with_reducible rfl)
              go_simp
              refine wpAnyH_take (i := 4) (v := (.bool false)) rfl (by kernel_rfl) (by kernel_rfl) (by kernel_rfl) (fun _ _ _ h => h) (Or.inl ⟨by rfl, ?hhz54⟩) (by assumption) ?rrz54
              case hhz54 => (intro wz9 hSw; (try dsimp only at hSw); go_simp; try with_reducible rfl)
              go_simp
              refine wpAnyH_take (i := 5) (v := ?vvz55) rfl (by kernel_rfl) (by kernel_rfl) (by kernel_rfl) (fun _ _ _ h => h) (Or.inl ⟨by rfl, ?hhz55⟩) (by assumption) ?rrz55
              case hhz55 => (intro wz9 hSw; (try dsimp only at hSw); go_simp; try with_reducible rfl)
              go_simp
              refine wpAnyH_take (i := 6) (v := ?vvz56) rfl (by kernel_rfl) (by kernel_rfl) (by kernel_rfl) (fun _ _ _ h => h) (Or.inl ⟨by rfl, ?hhz56⟩) (by assumption) ?rrz56
              case hhz56 => (intro wz9 hSw; (try dsimp only at hSw); go_simp; try with_reducible rfl)
              go_simp
              refine wpAnyH_take (i := 7) (v := (.pointer (some ⟨b, off + j, none⟩))) rfl (by kernel_rfl) (by kernel_rfl) (by kernel_rfl) (fun _ _ _ h => h) (Or.inl ⟨by rfl, ?hhz57⟩) (by assumption) ?rrz57
              case hhz57 => (intro wz9 hSw; (try dsimp only at hSw); go_simp; try with_reducible rfl)
              go_simp
              refine wpAnyH_take (i := 8) (v := (.string ⟨x.toArray⟩)) rfl (by kernel_rfl) (by kernel_rfl) (by kernel_rfl) (fun _ _ _ h => h) (Or.inl ⟨by rfl, ?hhz58⟩) (by assumption) ?rrz58
              case hhz58 => (intro wz9 hSw; (try dsimp only at hSw); go_simp; try with_reducible rfl)
              go_simp
              refine wpAnyH_take (i := 9) (v := (.bool false)) rfl (by kernel_rfl) (by kernel_rfl) (by kernel_rfl) (fun _ _ _ h => h) (Or.inl ⟨by rfl, ?hhz59⟩) (by assumption) ?rrz59
              case hhz59 => (intro wz9 hSw; (try dsimp only at hSw); go_simp; try with_reducible rfl)
              go_simp
              refine wpAnyH_take (i := 10) (v := (.bool false)) rfl (by kernel_rfl) (by kernel_rfl) (by kernel_rfl) (fun _ _ _ h => h) (Or.inl ⟨by rfl, ?hhz510⟩) (by assumption) ?rrz510
              case hhz510 => (intro wz9 hSw; (try dsimp only at hSw); go_simp; try with_reducible rfl)
              go_simp
              refine wpAnyH_take (i := 11) (v := undef) rfl (by kernel_rfl) (by kernel_rfl) (by kernel_rfl) (fun _ _ _ h => h) (Or.inr ⟨by rfl, rfl⟩) (by assumption) ?_
              go_simp
              refine wpAnyH_take (i := 12) (v := undef) rfl (by kernel_rfl) (by kernel_rfl) (by kernel_rfl) (fun _ _ _ h => h) (Or.inr ⟨by rfl, rfl⟩) (by assumption) ?_
              go_simp
              refine wpAnyH_take (i := 13) (v := undef) rfl (by kernel_rfl) (by kernel_rfl) (by kernel_rfl) (fun _ _ _ h => h) (Or.inr ⟨by rfl, rfl⟩) (by assumption) ?_
              go_simp
              refine wpAnyH_take (i := 14) (v := undef) rfl (by kernel_rfl) (by kernel_rfl) (by kernel_rfl) (fun _ _ _ h => h) (Or.inr ⟨by rfl, rfl⟩) (by assumption) ?_
              go_simp
              refine wpAnyH_take (i := 15) (v := undef) rfl (by kernel_rfl) (by kernel_rfl) (by kernel_rfl) (fun _ _ _ h => h) (Or.inr ⟨by rfl, rfl⟩) (by assumption) ?_
              go_simp
              refine wpAnyH_take (i := 16) (v := undef) rfl (by kernel_rfl) (by kernel_rfl) (by kernel_rfl) (fun _ _ _ h => h) (Or.inr ⟨by rfl, rfl⟩) (by assumption) ?_
              go_simp
              refine wpAnyH_take (i := 17) (v := undef) rfl (by kernel_rfl) (by kernel_rfl) (by kernel_rfl) (fun _ _ _ h => h) (Or.inr ⟨by rfl, rfl⟩) (by assumption) ?_
              go_simp
              refine wpAnyH_take (i := 18) (v := undef) rfl (by kernel_rfl) (by kernel_rfl) (by kernel_rfl) (fun _ _ _ h => h) (Or.inr ⟨by rfl, rfl⟩) (by assumption) ?_
              go_simp
              refine wpAnyH_take (i := 19) (v := undef) rfl (by kernel_rfl) (by kernel_rfl) (by kernel_rfl) (fun _ _ _ h => h) (Or.inr ⟨by rfl, rfl⟩) (by assumption) ?_
              go_simp
              refine wpAnyH_take (i := 20) (v := (.bool false)) rfl (by kernel_rfl) (by kernel_rfl) (by kernel_rfl) (fun _ _ _ h => h) (Or.inl ⟨by rfl, ?hhz520⟩) (by assumption) ?rrz520
              case hhz520 => (intro wz9 hSw; (try dsimp only at hSw); go_simp; try with_reducible rfl)
              go_simp
              refine wpAnyH_take (i := 21) (v := (.bool false)) rfl (by kernel_rfl) (by kernel_rfl) (by kernel_rfl) (fun _ _ _ h => h) (Or.inl ⟨by rfl, ?hhz521⟩) (by assumption) ?rrz521
              case hhz521 => (intro wz9 hSw; (try dsimp only at hSw); go_simp; try with_reducible rfl)
              go_simp
              refine wpAnyH_done (by kernel_rfl) ?_ _
              go_wp2
              go_roundw
              case rel => exact ⟨j + 1, by go_num, by omega, by omega, HQ, hkr.drew⟩
              case measure => simp [intOf]; omega
            · have h43b : (x == [43]) = false := by simpa using h43
              have h43n : (x != [43]) = true := by simpa using h43
              by_cases hxy : x = y
              · have HQ : Hid (coversL (F.drop (j + 1)) (N.drop (j + 1)) = R) := Lib.hid (by have := HD.out; rw [HU.out, hxy] at this; simpa using this)
                have hxyn : (x != y) = false := by simpa using hxy
                have hxyb : (x == y) = true := by simpa using hxy
                clear hxy h43
                go_wp2
                refine wp_region_held_drew (S := (fun wx => wx.cell? ⟨b, off + j, none⟩ = some (.string ⟨x.toArray⟩) ∧ wx.cell? ⟨b', off' + j, none⟩ = some (.string ⟨y.toArray⟩))) (by kernel_rfl) ?_ (fun hHeld => ?_)
                · exact ⟨hc, hc'⟩
                refine wpAnyH_take (i := 0) (v := ?vvz60) rfl (by kernel_rfl) (by kernel_rfl) (by kernel_rfl) (fun _ _ _ h => h) (Or.inl ⟨by rfl, ?hhz60⟩) (by assumption) ?rrz60
                case hhz60 => (intro wz9 hSw; (try dsimp only at hSw); go_simp; try with_reducible rfl)
                go_simp
                refine wpAnyH_take (i := 1) (v := ?vvz61) rfl (by kernel_rfl) (by kernel_rfl) (by kernel_rfl) (fun _ _ _ h => h) (Or.inl ⟨by rfl, ?hhz61⟩) (by assumption) ?rrz61
                case hhz61 => (intro wz9 hSw; (try dsimp only at hSw); go_simp; try with_reducible rfl)
                go_simp
                refine wpAnyH_take (i := 2) (v := ?vvz62) rfl (by kernel_rfl) (by kernel_rfl) (by kernel_rfl) (fun _ _ _ h => h) (Or.inl ⟨by rfl, ?hhz62⟩) (by assumption) ?rrz62
                case hhz62 => (intro wz9 hSw; (try dsimp only at hSw); go_simp; try with_reducible rfl)
                go_simp
                refine wpAnyH_take (i := 3) (v := (.bool false)) rfl (by kernel_rfl) (by kernel_rfl) (by kernel_rfl) (fun _ _ _ h => h) (Or.inl ⟨by rfl, ?hhz63⟩) (by assumption) ?rrz63
                case hhz63 => (intro wz9 hSw; (try dsimp only at hSw); go_simp; try with_reducible rfl)
                go_simp
                refine wpAnyH_take (i := 4) (v := (.bool false)) rfl (by kernel_rfl) (by kernel_rfl) (by kernel_rfl) (fun _ _ _ h => h) (Or.inl ⟨by rfl, ?hhz64⟩) (by assumption) ?rrz64
                case hhz64 => (intro wz9 hSw; (try dsimp only at hSw); go_simp; try with_reducible rfl)
                go_simp
                refine wpAnyH_take (i := 5) (v := ?vvz65) rfl (by kernel_rfl) (by kernel_rfl) (by kernel_rfl) (fun _ _ _ h => h) (Or.inl ⟨by rfl, ?hhz65⟩) (by assumption) ?rrz65
                case hhz65 => (intro wz9 hSw; (try dsimp only at hSw); go_simp; try with_reducible rfl)
                go_simp
                refine wpAnyH_take (i := 6) (v := ?vvz66) rfl (by kernel_rfl) (by kernel_rfl) (by kernel_rfl) (fun _ _ _ h => h) (Or.inl ⟨by rfl, ?hhz66⟩) (by assumption) ?rrz66
                case hhz66 => (intro wz9 hSw; (try dsimp only at hSw); go_simp; try with_reducible rfl)
                go_simp
                refine wpAnyH_take (i := 7) (v := (.pointer (some ⟨b, off + j, none⟩))) rfl (by kernel_rfl) (by kernel_rfl) (by kernel_rfl) (fun _ _ _ h => h) (Or.inl ⟨by rfl, ?hhz67⟩) (by assumption) ?rrz67
                case hhz67 => (intro wz9 hSw; (try dsimp only at hSw); go_simp; try with_reducible rfl)
                go_simp
                refine wpAnyH_take (i := 8) (v := (.string ⟨x.toArray⟩)) rfl (by kernel_rfl) (by kernel_rfl) (by kernel_rfl) (fun _ _ _ h => h) (Or.inl ⟨by rfl, ?hhz68⟩) (by assumption) ?rrz68
                case hhz68 => (intro wz9 hSw; (try dsimp only at hSw); go_simp; try with_reducible rfl)
                go_simp
                refine wpAnyH_take (i := 9) (v := (.bool true)) rfl (by kernel_rfl) (by kernel_rfl) (by kernel_rfl) (fun _ _ _ h => h) (Or.inl ⟨by rfl, ?hhz69⟩) (by assumption) ?rrz69
                case hhz69 => (intro wz9 hSw; (try dsimp only at hSw); go_simp; try with_reducible rfl)
                go_simp
                refine wpAnyH_take (i := 10) (v := (.bool true)) rfl (by kernel_rfl) (by kernel_rfl) (by kernel_rfl) (fun _ _ _ h => h) (Or.inl ⟨by rfl, ?hhz610⟩) (by assumption) ?rrz610
                case hhz610 => (intro wz9 hSw; (try dsimp only at hSw); go_simp; try with_reducible rfl)
                go_simp
                refine wpAnyH_take (i := 11) (v := ?vvz611) rfl (by kernel_rfl) (by kernel_rfl) (by kernel_rfl) (fun _ _ _ h => h) (Or.inl ⟨by rfl, ?hhz611⟩) (by assumption) ?rrz611
                case hhz611 => (intro wz9 hSw; (try dsimp only at hSw); go_simp; try with_reducible rfl)
                go_simp
                refine wpAnyH_take (i := 12) (v := ?vvz612) rfl (by kernel_rfl) (by kernel_rfl) (by kernel_rfl) (fun _ _ _ h => h) (Or.inl ⟨by rfl, ?hhz612⟩) (by assumption) ?rrz612
                case hhz612 => (intro wz9 hSw; (try dsimp only at hSw); go_simp; try with_reducible rfl)
                go_simp
                refine wpAnyH_take (i := 13) (v := (.pointer (some ⟨b, off + j, none⟩))) rfl (by kernel_rfl) (by kernel_rfl) (by kernel_rfl) (fun _ _ _ h => h) (Or.inl ⟨by rfl, ?hhz613⟩) (by assumption) ?rrz613
                case hhz613 => (intro wz9 hSw; (try dsimp only at hSw); go_simp; try with_reducible rfl)
                go_simp
                refine wpAnyH_take (i := 14) (v := (.string ⟨x.toArray⟩)) rfl (by kernel_rfl) (by kernel_rfl) (by kernel_rfl) (fun _ _ _ h => h) (Or.inl ⟨by rfl, ?hhz614⟩) (by assumption) ?rrz614
                case hhz614 => (intro wz9 hSw; (try dsimp only at hSw); go_simp; try with_reducible rfl)
                go_simp
                refine wpAnyH_take (i := 15) (v := ?vvz615) rfl (by kernel_rfl) (by kernel_rfl) (by kernel_rfl) (fun _ _ _ h => h) (Or.inl ⟨by rfl, ?hhz615⟩) (by assumption) ?rrz615
                case hhz615 => (intro wz9 hSw; (try dsimp only at hSw); go_simp; try with_reducible rfl)
                go_simp
                refine wpAnyH_take (i := 16) (v := ?vvz616) rfl (by kernel_rfl) (by kernel_rfl) (by kernel_rfl) (fun _ _ _ h => h) (Or.inl ⟨by rfl, ?hhz616⟩) (by assumption) ?rrz616
                case hhz616 => (intro wz9 hSw; (try dsimp only at hSw); go_simp; try with_reducible rfl)
                go_simp
                refine wpAnyH_take (i := 17) (v := (.pointer (some ⟨b', off' + j, none⟩))) rfl (by kernel_rfl) (by kernel_rfl) (by kernel_rfl) (fun _ _ _ h => h) (Or.inl ⟨by rfl, ?hhz617⟩) (by assumption) ?rrz617
                case hhz617 => (intro wz9 hSw; (try dsimp only at hSw); go_simp; try with_reducible rfl)
                go_simp
                refine wpAnyH_take (i := 18) (v := (.string ⟨y.toArray⟩)) rfl (by kernel_rfl) (by kernel_rfl) (by kernel_rfl) (fun _ _ _ h => h) (Or.inl ⟨by rfl, ?hhz618⟩) (by assumption) ?rrz618
                case hhz618 => (intro wz9 hSw; (try dsimp only at hSw); go_simp; try with_reducible rfl)
                go_simp
                refine wpAnyH_take (i := 19) (v := (.bool false)) rfl (by kernel_rfl) (by kernel_rfl) (by kernel_rfl) (fun _ _ _ h => h) (Or.inl ⟨by rfl, ?hhz619⟩) (by assumption) ?rrz619
                case hhz619 => (intro wz9 hSw; (try dsimp only at hSw); go_simp; try with_reducible rfl)
                go_simp
                refine wpAnyH_take (i := 20) (v := (.bool false)) rfl (by kernel_rfl) (by kernel_rfl) (by kernel_rfl) (fun _ _ _ h => h) (Or.inl ⟨by rfl, ?hhz620⟩) (by assumption) ?rrz620
                case hhz620 => (intro wz9 hSw; (try dsimp only at hSw); go_simp; try with_reducible rfl)
                go_simp
                refine wpAnyH_take (i := 21) (v := (.bool false)) rfl (by kernel_rfl) (by kernel_rfl) (by kernel_rfl) (fun _ _ _ h => h) (Or.inl ⟨by rfl, ?hhz621⟩) (by assumption) ?rrz621
                case hhz621 => (intro wz9 hSw; (try dsimp only at hSw); go_simp; try with_reducible rfl)
                go_simp
                refine wpAnyH_done (by kernel_rfl) ?_ _
                go_wp2
                go_roundw
                case rel => exact ⟨j + 1, by go_num, by omega, by omega, HQ, hkr.drew⟩
                case measure => simp [intOf]; omega
              · have HQ : Hid (R = false) := Lib.hid (by have := HD.out; rw [HU.out] at this; simpa [h43, hxy] using this.symm)
                have hxyb : (x == y) = false := by simpa using hxy
                have hxyn : (x != y) = true := by simpa using hxy
                clear hxy h43
                go_wp2
                refine wp_region_held_drew (S := (fun wx => wx.cell? ⟨b, off + j, none⟩ = some (.string ⟨x.toArray⟩) ∧ wx.cell? ⟨b', off' + j, none⟩ = some (.string ⟨y.toArray⟩))) (by kernel_rfl) ?_ (fun hHeld => ?_)
                · exact ⟨hc, hc'⟩
                refine wpAnyH_take (i := 0) (v := ?vvz70) rfl (by kernel_rfl) (by kernel_rfl) (by kernel_rfl) (fun _ _ _ h => h) (Or.inl ⟨by rfl, ?hhz70⟩) (by assumption) ?rrz70
                case hhz70 => (intro wz9 hSw; (try dsimp only at hSw); go_simp; try with_reducible rfl)
                go_simp
                refine wpAnyH_take (i := 1) (v := ?vvz71) rfl (by kernel_rfl) (by kernel_rfl) (by kernel_rfl) (fun _ _ _ h => h) (Or.inl ⟨by rfl, ?hhz71⟩) (by assumption) ?rrz71
                case hhz71 => (intro wz9 hSw; (try dsimp only at hSw); go_simp; try with_reducible rfl)
                go_simp
                refine wpAnyH_take (i := 2) (v := ?vvz72) rfl (by kernel_rfl) (by kernel_rfl) (by kernel_rfl) (fun _ _ _ h => h) (Or.inl ⟨by rfl, ?hhz72⟩) (by assumption) ?rrz72
                case hhz72 => (intro wz9 hSw; (try dsimp only at hSw); go_simp; try with_reducible rfl)
                go_simp
                refine wpAnyH_take (i := 3) (v := (.bool false)) rfl (by kernel_rfl) (by kernel_rfl) (by kernel_rfl) (fun _ _ _ h => h) (Or.inl ⟨by rfl, ?hhz73⟩) (by assumption) ?rrz73
                case hhz73 => (intro wz9 hSw; (try dsimp only at hSw); go_simp; try with_reducible rfl)
                go_simp
                refine wpAnyH_take (i := 4) (v := (.bool false)) rfl (by kernel_rfl) (by kernel_rfl) (by kernel_rfl) (fun _ _ _ h => h) (Or.inl ⟨by rfl, ?hhz74⟩) (by assumption) ?rrz74
                case hhz74 => (intro wz9 hSw; (try dsimp only at hSw); go_simp; try with_reducible rfl)
                go_simp
                refine wpAnyH_take (i := 5) (v := ?vvz75) rfl (by kernel_rfl) (by kernel_rfl) (by kernel_rfl) (fun _ _ _ h => h) (Or.inl ⟨by rfl, ?hhz75⟩) (by assumption) ?rrz75
                case hhz75 => (intro wz9 hSw; (try dsimp only at hSw); go_simp; try with_reducible rfl)
                go_simp
                refine wpAnyH_take (i := 6) (v := ?vvz76) rfl (by kernel_rfl) (by kernel_rfl) (by kernel_rfl) (fun _ _ _ h => h) (Or.inl ⟨by rfl, ?hhz76⟩) (by assumption) ?rrz76
                case hhz76 => (intro wz9 hSw; (try dsimp only at hSw); go_simp; try with_reducible rfl)
                go_simp
                refine wpAnyH_take (i := 7) (v := (.pointer (some ⟨b, off + j, none⟩))) rfl (by kernel_rfl) (by kernel_rfl) (by kernel_rfl) (fun _ _ _ h => h) (Or.inl ⟨by rfl, ?hhz77⟩) (by assumption) ?rrz77
                case hhz77 => (intro wz9 hSw; (try dsimp only at hSw); go_simp; try with_reducible rfl)
                go_simp
                refine wpAnyH_take (i := 8) (v := (.string ⟨x.toArray⟩)) rfl (by kernel_rfl) (by kernel_rfl) (by kernel_rfl) (fun _ _ _ h => h) (Or.inl ⟨by rfl, ?hhz78⟩) (by assumption) ?rrz78
                case hhz78 => (intro wz9 hSw; (try dsimp only at hSw); go_simp; try with_reducible rfl)
                go_simp
                refine wpAnyH_take (i := 9) (v := (.bool true)) rfl (by kernel_rfl) (by kernel_rfl) (by kernel_rfl) (fun _ _ _ h => h) (Or.inl ⟨by rfl, ?hhz79⟩) (by assumption) ?rrz79
                case hhz79 => (intro wz9 hSw; (try dsimp only at hSw); go_simp; try with_reducible rfl)
                go_simp
                refine wpAnyH_take (i := 10) (v := (.bool true)) rfl (by kernel_rfl) (by kernel_rfl) (by kernel_rfl) (fun _ _ _ h => h) (Or.inl ⟨by rfl, ?hhz710⟩) (by assumption) ?rrz710
                case hhz710 => (intro wz9 hSw; (try dsimp only at hSw); go_simp; try with_reducible rfl)
                go_simp
                refine wpAnyH_take (i := 11) (v := ?vvz711) rfl (by kernel_rfl) (by kernel_rfl) (by kernel_rfl) (fun _ _ _ h => h) (Or.inl ⟨by rfl, ?hhz711⟩) (by assumption) ?rrz711
                case hhz711 => (intro wz9 hSw; (try dsimp only at hSw); go_simp; try with_reducible rfl)
                go_simp
                refine wpAnyH_take (i := 12) (v := ?vvz712) rfl (by kernel_rfl) (by kernel_rfl) (by kernel_rfl) (fun _ _ _ h => h) (Or.inl ⟨by rfl, ?hhz712⟩) (by assumption) ?rrz712
                case hhz712 => (intro wz9 hSw; (try dsimp only at hSw); go_simp; try with_reducible rfl)
                go_simp
                refine wpAnyH_take (i := 13) (v := (.pointer (some ⟨b, off + j, none⟩))) rfl (by kernel_rfl) (by kernel_rfl) (by kernel_rfl) (fun _ _ _ h => h) (Or.inl ⟨by rfl, ?hhz713⟩) (by assumption) ?rrz713
                case hhz713 => (intro wz9 hSw; (try dsimp only at hSw); go_simp; try with_reducible rfl)
                go_simp
                refine wpAnyH_take (i := 14) (v := (.string ⟨x.toArray⟩)) rfl (by kernel_rfl) (by kernel_rfl) (by kernel_rfl) (fun _ _ _ h => h) (Or.inl ⟨by rfl, ?hhz714⟩) (by assumption) ?rrz714
                case hhz714 => (intro wz9 hSw; (try dsimp only at hSw); go_simp; try with_reducible rfl)
                go_simp
                refine wpAnyH_take (i := 15) (v := ?vvz715) rfl (by kernel_rfl) (by kernel_rfl) (by kernel_rfl) (fun _ _ _ h => h) (Or.inl ⟨by rfl, ?hhz715⟩) (by assumption) ?rrz715
                case hhz715 => (intro wz9 hSw; (try dsimp only at hSw); go_simp; try with_reducible rfl)
                go_simp
                refine wpAnyH_take (i := 16) (v := ?vvz716) rfl (by kernel_rfl) (by kernel_rfl) (by kernel_rfl) (fun _ _ _ h => h) (Or.inl ⟨by rfl, ?hhz716⟩) (by assumption) ?rrz716
                case hhz716 => (intro wz9 hSw; (try dsimp only at hSw); go_simp; try with_reducible rfl)
                go_simp
                refine wpAnyH_take (i := 17) (v := (.pointer (some ⟨b', off' + j, none⟩))) rfl (by kernel_rfl) (by kernel_rfl) (by kernel_rfl) (fun _ _ _ h => h) (Or.inl ⟨by rfl, ?hhz717⟩) (by assumption) ?rrz717
                case hhz717 => (intro wz9 hSw; (try dsimp only at hSw); go_simp; try with_reducible rfl)
                go_simp
                refine wpAnyH_take (i := 18) (v := (.string ⟨y.toArray⟩)) rfl (by kernel_rfl) (by kernel_rfl) (by kernel_rfl) (fun _ _ _ h => h) (Or.inl ⟨by rfl, ?hhz718⟩) (by assumption) ?rrz718
                case hhz718 => (intro wz9 hSw; (try dsimp only at hSw); go_simp; try with_reducible rfl)
                go_simp
                refine wpAnyH_take (i := 19) (v := (.bool true)) rfl (by kernel_rfl) (by kernel_rfl) (by kernel_rfl) (fun _ _ _ h => h) (Or.inl ⟨by rfl, ?hhz719⟩) (by assumption) ?rrz719
                case hhz719 => (intro wz9 hSw; (try dsimp only at hSw); go_simp; try with_reducible rfl)
                go_simp
                refine wpAnyH_take (i := 20) (v := (.bool true)) rfl (by kernel_rfl) (by kernel_rfl) (by kernel_rfl) (fun _ _ _ h => h) (Or.inl ⟨by rfl, ?hhz720⟩) (by assumption) ?rrz720
                case hhz720 => (intro wz9 hSw; (try dsimp only at hSw); go_simp; try with_reducible rfl)
                go_simp
                refine wpAnyH_take (i := 21) (v := (.bool true)) rfl (by kernel_rfl) (by kernel_rfl) (by kernel_rfl) (fun _ _ _ h => h) (Or.inl ⟨by rfl, ?hhz721⟩) (by assumption) ?rrz721
                case hhz721 => (intro wz9 hSw; (try dsimp only at hSw); go_simp; try with_reducible rfl)
                go_simp
                refine wpAnyH_done (by kernel_rfl) ?_ _
                go_wp2
                go_ret
                exact ⟨by rw [HQ.out]; rfl, ((((hk1.trans hk2).trans hk3).trans hk4).trans hk5).trans (hkr.drew)⟩
          · have hje : decide ((N.length : Int) ≤ (j : Int)) = true := by simp; omega
            have hjI : (N.length : Int) ≤ j := by omega
            have HQ : Hid (R = false) := Lib.hid (by rw [← HD.out, HX.out, show N.drop j = [] from List.drop_of_length_le (by omega), covers_end h35])
            go_wp2
            refine wp_region_held_drew (S := (fun wx => wx.cell? ⟨b, off + j, none⟩ = some (.string ⟨x.toArray⟩))) (by kernel_rfl) ?_ (fun hHeld => ?_)
            · exact hc
            refine wpAnyH_take (i := 0) (v := ?vvz80) rfl (by kernel_rfl) (by kernel_rfl) (by kernel_rfl) (fun _ _ _ h => h) (Or.inl ⟨by rfl, ?hhz80⟩) (by assumption) ?rrz80
            case hhz80 => (intro wz9 hSw; (try dsimp only at hSw); go_simp; try with_reducible rfl)
            go_simp
            refine wpAnyH_take (i := 1) (v := ?vvz81) rfl (by kernel_rfl) (by kernel_rfl) (by kernel_rfl) (fun _ _ _ h => h) (Or.inl ⟨by rfl, ?hhz81⟩) (by assumption) ?rrz81
            case hhz81 => (intro wz9 hSw; (try dsimp only at hSw); go_simp; try with_reducible rfl)
            go_simp
            refine wpAnyH_take (i := 2) (v := ?vvz82) rfl (by kernel_rfl) (by kernel_rfl) (by kernel_rfl) (fun _ _ _ h => h) (Or.inl ⟨by rfl, ?hhz82⟩) (by assumption) ?rrz82
            case hhz82 => (intro wz9 hSw; (try dsimp only at hSw); go_simp; try with_reducible rfl)
            go_simp
            refine wpAnyH_take (i := 3) (v := (.bool true)) rfl (by kernel_rfl) (by kernel_rfl) (by kernel_rfl) (fun _ _ _ h => h) (Or.inl ⟨by rfl, ?hhz83⟩) (by assumption) ?rrz83
            case hhz83 => (intro wz9 hSw; (try dsimp only at hSw); go_simp; try with_reducible rfl)
            go_simp
            refine wpAnyH_take (i := 4) (v := (.bool true)) rfl (by kernel_rfl) (by kernel_rfl) (by kernel_rfl) (fun _ _ _ h => h) (Or.inl ⟨by rfl, ?hhz84⟩) (by assumption) ?rrz84
            case hhz84 => (intro wz9 hSw; (try dsimp only at hSw); go_simp; try with_reducible rfl)
            go_simp
            refine wpAnyH_take (i := 5) (v := undef) rfl (by kernel_rfl) (by kernel_rfl) (by kernel_rfl) (fun _ _ _ h => h) (Or.inr ⟨by rfl, rfl⟩) (by assumption) ?_
            go_simp
            refine wpAnyH_take (i := 6) (v := undef) rfl (by kernel_rfl) (by kernel_rfl) (by kernel_rfl) (fun _ _ _ h => h) (Or.inr ⟨by rfl, rfl⟩) (by assumption) ?_
            go_simp
            refine wpAnyH_take (i := 7) (v := undef) rfl (by kernel_rfl) (by kernel_rfl) (by kernel_rfl) (fun _ _ _ h => h) (Or.inr ⟨by rfl, rfl⟩) (by assumption) ?_
            go_simp
            refine wpAnyH_take (i := 8) (v := undef) rfl (by kernel_rfl) (by kernel_rfl) (by kernel_rfl) (fun _ _ _ h => h) (Or.inr ⟨by rfl, rfl⟩) (by assumption) ?_
            go_simp
            refine wpAnyH_take (i := 9) (v := undef) rfl (by kernel_rfl) (by kernel_rfl) (by kernel_rfl) (fun _ _ _ h => h) (Or.inr ⟨by rfl, rfl⟩) (by assumption) ?_
            go_simp
            refine wpAnyH_take (i := 10) (v := undef) rfl (by kernel_rfl) (by kernel_rfl) (by kernel_rfl) (fun _ _ _ h => h) (Or.inr ⟨by rfl, rfl⟩) (by assumption) ?_
            go_simp
            refine wpAnyH_take (i := 11) (v := undef) rfl (by kernel_rfl) (by kernel_rfl) (by kernel_rfl) (fun _ _ _ h => h) (Or.inr ⟨by rfl, rfl⟩) (by assumption) ?_
            go_simp
            refine wpAnyH_take (i := 12) (v := undef) rfl (by kernel_rfl) (by kernel_rfl) (by kernel_rfl) (fun _ _ _ h => h) (Or.inr ⟨by rfl, rfl⟩) (by assumption) ?_
            go_simp
            refine wpAnyH_take (i := 13) (v := undef) rfl (by kernel_rfl) (by kernel_rfl) (by kernel_rfl) (fun _ _ _ h => h) (Or.inr ⟨by rfl, rfl⟩) (by assumption) ?_
            go_simp
            refine wpAnyH_take (i := 14) (v := undef) rfl (by kernel_rfl) (by kernel_rfl) (by kernel_rfl) (fun _ _ _ h => h) (Or.inr ⟨by rfl, rfl⟩) (by assumption) ?_
            go_simp
            refine wpAnyH_take (i := 15) (v := undef) rfl (by kernel_rfl) (by kernel_rfl) (by kernel_rfl) (fun _ _ _ h => h) (Or.inr ⟨by rfl, rfl⟩) (by assumption) ?_
            go_simp
            refine wpAnyH_take (i := 16) (v := undef) rfl (by kernel_rfl) (by kernel_rfl) (by kernel_rfl) (fun _ _ _ h => h) (Or.inr ⟨by rfl, rfl⟩) (by assumption) ?_
            go_simp
            refine wpAnyH_take (i := 17) (v := undef) rfl (by kernel_rfl) (by kernel_rfl) (by kernel_rfl) (fun _ _ _ h => h) (Or.inr ⟨by rfl, rfl⟩) (by assumption) ?_
            go_simp
            refine wpAnyH_take (i := 18) (v := undef) rfl (by kernel_rfl) (by kernel_rfl) (by kernel_rfl) (fun _ _ _ h => h) (Or.inr ⟨by rfl, rfl⟩) (by assumption) ?_
            go_simp
            refine wpAnyH_take (i := 19) (v := undef) rfl (by kernel_rfl) (by kernel_rfl) (by kernel_rfl) (fun _ _ _ h => h) (Or.inr ⟨by rfl, rfl⟩) (by assumption) ?_
            go_simp
            refine wpAnyH_take (i := 20) (v := undef) rfl (by kernel_rfl) (by kernel_rfl) (by kernel_rfl) (fun _ _ _ h => h) (Or.inr ⟨by rfl, rfl⟩) (by assumption) ?_
            go_simp
            refine wpAnyH_take (i := 21) (v := (.bool true)) rfl (by kernel_rfl) (by kernel_rfl) (by kernel_rfl) (fun _ _ _ h => h) (Or.inl ⟨by rfl, ?hhz821⟩) (by assumption) ?rrz821
            case hhz821 => (intro wz9 hSw; (try dsimp only at hSw); go_simp; try with_reducible rfl)
            go_simp
            refine wpAnyH_done (by kernel_rfl) ?_ _
            go_wp2
            go_ret
            exact ⟨by rw [HQ.out]; rfl, ((((hk1.trans hk2).trans hk3).trans hk4).trans hk5).trans (hkr.drew)⟩
      · have hF0 : F.drop j = [] := List.drop_of_length_le (by omega)
        have HQ : Hid (R = decide (F.length = N.length)) := Lib.hid (by
          rw [← HD.out, hF0, coversL]
          by_cases he : F.length = N.length
          · rw [List.drop_of_length_le (by omega), decide_eq_true he]; rfl
          · rw [decide_eq_false he]
            cases hd : N.drop j with
            | nil => have := congrArg List.length hd; simp at this; omega
            | cons _ _ => rfl)
        have HB : Hid (((F.length : Int) == (N.length : Int)) = decide (F.length = N.length)) := Lib.hid (by
          by_cases he : F.length = N.length
          · rw [decide_eq_true he]; simp [he]
          · rw [decide_eq_false he]; simp; omega)
        clear hF0
        go_wp2
        go_ret
        exact ⟨by rw [HQ.out, ← HB.out]; rfl, ((((hk1.trans hk2).trans hk3).trans hk4).trans hk5).trans hkr⟩

set_option maxRecDepth 100000 in
set_option maxHeartbeats 4000000 in
theorem rmatch_syes (f n u G : ByteArray) (F N : List (List UInt8)) (R : Bool) (w : World)
    (HF : Hid (∀ wx, Calls Tryd.prog 16 #[.string f] wx fun e w' => e = .returned (.bool true) ∧ Kept No wx w'))
    (HN : Hid (∀ wx, Calls Tryd.prog 14 #[.string n] wx fun e w' => e = .returned (.bool true) ∧ Kept No wx w'))
    (HS : Hid (∀ wx, Calls Tryd.prog 41 #[.string f] wx fun e w' => e = .returned (.tuple #[.string u, .string G, .bool true]) ∧ Kept No wx w'))
    (HA : Hid (∀ wx, Calls Tryd.prog 22 #[.string G] wx (RLevIs wx F)))
    (HB2 : Hid (∀ wx, Calls Tryd.prog 22 #[.string n] wx (RLevIs wx N)))
    (hn0 : 0 < n.size) (hg1 : 0 < G.size) (hFl : F.length ≤ 4294967281) (hNl : N.length ≤ 4294967281)
    (h36 : n[0] = 36) (hw : G[0] = 43 ∨ G[0] = 35) (HR : Hid (R = false)) :
    Calls Tryd.prog 20 #[.string f, .string n] w fun e w' => e = .returned (.bool R) ∧ Kept No w w' := by
  have hn0z : (0 : Int) < n.size := by omega
  have hg1z : (0 : Int) < G.size := by omega
  have e36 : ((n[0].toNat : Int) == 36) = true := byte_beq h36
  by_cases h43 : G[0] = 43
  · have e43 : ((G[0].toNat : Int) == 43) = true := byte_beq h43
    clear h36 hw h43
    go_enter Tryd.func20, Tryd.ntmps20
    go_wp2_with (first
      | (go_at_call 16; refine (HF.out _).mono ?_; rintro e w1 ⟨rfl, hk1⟩)
      | (go_at_call 14; refine (HN.out _).mono ?_; rintro e w2 ⟨rfl, hk2⟩)
      | (go_at_call 41; refine (HS.out _).mono ?_; rintro e w3 ⟨rfl, hk3⟩)
      | (go_at_call 22; (with_reducible refine (HA.out _).mono ?_); rintro e w4 ⟨a, c, rfl, hra, hk4⟩)
      | (go_at_call 22; refine (HB2.out _).mono ?_; rintro e w5 ⟨a', c', rfl, hrb, hk5⟩; have hra := hra.keptNo hk5))
    go_ret
    exact ⟨by rw [HR.out]; rfl, (((hk1.trans hk2).trans hk3).trans hk4).trans hk5⟩
  · have e43 : ((G[0].toNat : Int) == 43) = false := byte_bne h43
    have e35 : ((G[0].toNat : Int) == 35) = true := byte_beq (hw.resolve_left h43)
    clear h36 hw h43
    go_enter Tryd.func20, Tryd.ntmps20
    go_wp2_with (first
      | (go_at_call 16; refine (HF.out _).mono ?_; rintro e w1 ⟨rfl, hk1⟩)
      | (go_at_call 14; refine (HN.out _).mono ?_; rintro e w2 ⟨rfl, hk2⟩)
      | (go_at_call 41; refine (HS.out _).mono ?_; rintro e w3 ⟨rfl, hk3⟩)
      | (go_at_call 22; (with_reducible refine (HA.out _).mono ?_); rintro e w4 ⟨a, c, rfl, hra, hk4⟩)
      | (go_at_call 22; refine (HB2.out _).mono ?_; rintro e w5 ⟨a', c', rfl, hrb, hk5⟩; have hra := hra.keptNo hk5))
    go_ret
    exact ⟨by rw [HR.out]; rfl, (((hk1.trans hk2).trans hk3).trans hk4).trans hk5⟩

set_option maxRecDepth 100000 in
set_option maxHeartbeats 4000000 in
theorem rmatch_sno (f n u G : ByteArray) (F N : List (List UInt8)) (R : Bool) (w : World)
    (HF : Hid (∀ wx, Calls Tryd.prog 16 #[.string f] wx fun e w' => e = .returned (.bool true) ∧ Kept No wx w'))
    (HN : Hid (∀ wx, Calls Tryd.prog 14 #[.string n] wx fun e w' => e = .returned (.bool true) ∧ Kept No wx w'))
    (HS : Hid (∀ wx, Calls Tryd.prog 41 #[.string f] wx fun e w' => e = .returned (.tuple #[.string u, .string G, .bool true]) ∧ Kept No wx w'))
    (HA : Hid (∀ wx, Calls Tryd.prog 22 #[.string G] wx (RLevIs wx F)))
    (HB2 : Hid (∀ wx, Calls Tryd.prog 22 #[.string n] wx (RLevIs wx N)))
    (hn0 : 0 < n.size) (hg1 : 0 < G.size) (hFl : F.length ≤ 4294967281) (hNl : N.length ≤ 4294967281)
    (hw : n[0] ≠ 36 ∨ (G[0] ≠ 43 ∧ G[0] ≠ 35)) (HR : Hid (coversL F N = R)) :
    Calls Tryd.prog 20 #[.string f, .string n] w fun e w' => e = .returned (.bool R) ∧ Kept No w w' := by
  have hn0z : (0 : Int) < n.size := by omega
  have hg1z : (0 : Int) < G.size := by omega
  by_cases h36 : n[0] = 36
  · have e36 : ((n[0].toNat : Int) == 36) = true := byte_beq h36
    have h4 := hw.resolve_left (fun h => h h36)
    have e43 : ((G[0].toNat : Int) == 43) = false := byte_bne h4.1
    have e35 : ((G[0].toNat : Int) == 35) = false := byte_bne h4.2
    clear h36 hw h4
    go_enter Tryd.func20, Tryd.ntmps20
    go_wp2_with (first
      | (go_at_call 16; refine (HF.out _).mono ?_; rintro e w1 ⟨rfl, hk1⟩)
      | (go_at_call 14; refine (HN.out _).mono ?_; rintro e w2 ⟨rfl, hk2⟩)
      | (go_at_call 41; refine (HS.out _).mono ?_; rintro e w3 ⟨rfl, hk3⟩)
      | (go_at_call 22; (with_reducible refine (HA.out _).mono ?_); rintro e w4 ⟨a, c, rfl, hra, hk4⟩)
      | (go_at_call 22; refine (HB2.out _).mono ?_; rintro e w5 ⟨a', c', rfl, hrb, hk5⟩; have hra := hra.keptNo hk5))
    go_loopw [10] (fun i wr => ∃ j : Nat, i = .int .i64 j ∧ j ≤ F.length ∧ j ≤ N.length ∧ Hid (coversL (F.drop j) (N.drop j) = R) ∧ Kept No w5 wr) (fun i _ => F.length - (intOf i).toNat)
    case atStart => exact ⟨0, rfl, by omega, by omega, Lib.hid (by rw [List.drop_zero, List.drop_zero]; exact HR.out), Kept.refl _ _⟩
    case round =>
      obtain ⟨j, rfl, hj, hjN, HD, hkr⟩ := hrel
      by_cases hlt : j < F.length
      · have HX := Lib.hid (show F.drop j = F[j] :: F.drop (j + 1) from List.drop_eq_getElem_cons hlt)
        obtain ⟨b, off, rfl, hc⟩ := strs_at (hra.keptNo hkr) j hlt
        generalize F[j] = x at *
        by_cases h35 : x = [35]
        · subst h35
          have HQ : Hid (R = true) := Lib.hid (by rw [← HD.out, HX.out, covers_rest])
          go_wp2
          go_ret
          exact ⟨by rw [HQ.out]; rfl, ((((hk1.trans hk2).trans hk3).trans hk4).trans hk5).trans hkr⟩
        · have h35b : (x == [35]) = false := by simpa using h35
          by_cases hNl : j < N.length
          · have HY := Lib.hid (show N.drop j = N[j] :: N.drop (j + 1) from List.drop_eq_getElem_cons hNl)
            obtain ⟨b', off', rfl, hc'⟩ := strs_at (hrb.keptNo hkr) j hNl
            generalize N[j] = y at *
            have hne : decide ((N.length : Int) ≤ (j : Int)) = false := by simp; omega
            have hjI : (j : Int) < N.length := by omega
            have hjF : (j : Int) < F.length := by omega
            have HU : Hid (coversL (F.drop j) (N.drop j) = ((decide (x = [43]) || decide (x = y)) && coversL (F.drop (j + 1)) (N.drop (j + 1)))) := Lib.hid (by rw [HX.out, HY.out, covers_step h35])
            by_cases h43 : x = [43]
            · have HQ : Hid (coversL (F.drop (j + 1)) (N.drop (j + 1)) = R) := Lib.hid (by have := HD.out; rw [HU.out, h43] at this; simpa using this)
              have h43n : (x != [43]) = false := by simpa using h43
              have h43b : (x == [43]) = true := by simpa using h43
              clear h43
              go_wp2
              refine wp_region_held_drew (S := (fun wx => wx.cell? ⟨b, off + j, none⟩ = some (.string ⟨x.toArray⟩) ∧ wx.cell? ⟨b', off' + j, none⟩ = some (.string ⟨y.toArray⟩))) (by kernel_rfl) ?_ (fun hHeld => ?_)
              · exact ⟨hc, hc'⟩
              refine wpAnyH_take (i := 0) (v := ?vvz90) rfl (by kernel_rfl) (by kernel_rfl) (by kernel_rfl) (fun _ _ _ h => h) (Or.inl ⟨by rfl, ?hhz90⟩) (by assumption) ?rrz90
              case hhz90 => (intro wz9 hSw; (try dsimp only at hSw); go_simp; try with_reducible rfl)
              go_simp
              refine wpAnyH_take (i := 1) (v := ?vvz91) rfl (by kernel_rfl) (by kernel_rfl) (by kernel_rfl) (fun _ _ _ h => h) (Or.inl ⟨by rfl, ?hhz91⟩) (by assumption) ?rrz91
              case hhz91 => (intro wz9 hSw; (try dsimp only at hSw); go_simp; try with_reducible rfl)
              go_simp
              refine wpAnyH_take (i := 2) (v := ?vvz92) rfl (by kernel_rfl) (by kernel_rfl) (by kernel_rfl) (fun _ _ _ h => h) (Or.inl ⟨by rfl, ?hhz92⟩) (by assumption) ?rrz92
              case hhz92 => (intro wz9 hSw; (try dsimp only at hSw); go_simp; try with_reducible rfl)
              go_simp
              refine wpAnyH_take (i := 3) (v := (.bool false)) rfl (by kernel_rfl) (by kernel_rfl) (by kernel_rfl) (fun _ _ _ h => h) (Or.inl ⟨by rfl, ?hhz93⟩) (by assumption) ?rrz93
              case hhz93 => (intro wz9 hSw; (try dsimp only at hSw); go_simp; try with_reducible rfl)
              go_simp
              refine wpAnyH_take (i := 4) (v := (.bool false)) rfl (by kernel_rfl) (by kernel_rfl) (by kernel_rfl) (fun _ _ _ h => h) (Or.inl ⟨by rfl, ?hhz94⟩) (by assumption) ?rrz94
              case hhz94 => (intro wz9 hSw; (try dsimp only at hSw); go_simp; try with_reducible rfl)
              go_simp
              refine wpAnyH_take (i := 5) (v := ?vvz95) rfl (by kernel_rfl) (by kernel_rfl) (by kernel_rfl) (fun _ _ _ h => h) (Or.inl ⟨by rfl, ?hhz95⟩) (by assumption) ?rrz95
              case hhz95 => (intro wz9 hSw; (try dsimp only at hSw); go_simp; try with_reducible rfl)
              go_simp
              refine wpAnyH_take (i := 6) (v := ?vvz96) rfl (by kernel_rfl) (by kernel_rfl) (by kernel_rfl) (fun _ _ _ h => h) (Or.inl ⟨by rfl, ?hhz96⟩) (by assumption) ?rrz96
              case hhz96 => (intro wz9 hSw; (try dsimp only at hSw); go_simp; try with_reducible rfl)
              go_simp
              refine wpAnyH_take (i := 7) (v := (.pointer (some ⟨b, off + j, none⟩))) rfl (by kernel_rfl) (by kernel_rfl) (by kernel_rfl) (fun _ _ _ h => h) (Or.inl ⟨by rfl, ?hhz97⟩) (by assumption) ?rrz97
              case hhz97 => (intro wz9 hSw; (try dsimp only at hSw); go_simp; try with_reducible rfl)
              go_simp
              refine wpAnyH_take (i := 8) (v := (.string ⟨x.toArray⟩)) rfl (by kernel_rfl) (by kernel_rfl) (by kernel_rfl) (fun _ _ _ h => h) (Or.inl ⟨by rfl, ?hhz98⟩) (by assumption) ?rrz98
              case hhz98 => (intro wz9 hSw; (try dsimp only at hSw); go_simp; try with_reducible rfl)
              go_simp
              refine wpAnyH_take (i := 9) (v := (.bool false)) rfl (by kernel_rfl) (by kernel_rfl) (by kernel_rfl) (fun _ _ _ h => h) (Or.inl ⟨by rfl, ?hhz99⟩) (by assumption) ?rrz99
              case hhz99 => (intro wz9 hSw; (try dsimp only at hSw); go_simp; try with_reducible rfl)
              go_simp
              refine wpAnyH_take (i := 10) (v := (.bool false)) rfl (by kernel_rfl) (by kernel_rfl) (by kernel_rfl) (fun _ _ _ h => h) (Or.inl ⟨by rfl, ?hhz910⟩) (by assumption) ?rrz910
              case hhz910 => (intro wz9 hSw; (try dsimp only at hSw); go_simp; try with_reducible rfl)
              go_simp
              refine wpAnyH_take (i := 11) (v := undef) rfl (by kernel_rfl) (by kernel_rfl) (by kernel_rfl) (fun _ _ _ h => h) (Or.inr ⟨by rfl, rfl⟩) (by assumption) ?_
              go_simp
              refine wpAnyH_take (i := 12) (v := undef) rfl (by kernel_rfl) (by kernel_rfl) (by kernel_rfl) (fun _ _ _ h => h) (Or.inr ⟨by rfl, rfl⟩) (by assumption) ?_
              go_simp
              refine wpAnyH_take (i := 13) (v := undef) rfl (by kernel_rfl) (by kernel_rfl) (by kernel_rfl) (fun _ _ _ h => h) (Or.inr ⟨by rfl, rfl⟩) (by assumption) ?_
              go_simp
              refine wpAnyH_take (i := 14) (v := undef) rfl (by kernel_rfl) (by kernel_rfl) (by kernel_rfl) (fun _ _ _ h => h) (Or.inr ⟨by rfl, rfl⟩) (by assumption) ?_
              go_simp
              refine wpAnyH_take (i := 15) (v := undef) rfl (by kernel_rfl) (by kernel_rfl) (by kernel_rfl) (fun _ _ _ h => h) (Or.inr ⟨by rfl, rfl⟩) (by assumption) ?_
              go_simp
              refine wpAnyH_take (i := 16) (v := undef) rfl (by kernel_rfl) (by kernel_rfl) (by kernel_rfl) (fun _ _ _ h => h) (Or.inr ⟨by rfl, rfl⟩) (by assumption) ?_
              go_simp
              refine wpAnyH_take (i := 17) (v := undef) rfl (by kernel_rfl) (by kernel_rfl) (by kernel_rfl) (fun _ _ _ h => h) (Or.inr ⟨by rfl, rfl⟩) (by assumption) ?_
              go_simp
              refine wpAnyH_take (i := 18) (v := undef) rfl (by kernel_rfl) (by kernel_rfl) (by kernel_rfl) (fun _ _ _ h => h) (Or.inr ⟨by rfl, rfl⟩) (by assumption) ?_
              go_simp
              refine wpAnyH_take (i := 19) (v := undef) rfl (by kernel_rfl) (by kernel_rfl) (by kernel_rfl) (fun _ _ _ h => h) (Or.inr ⟨by rfl, rfl⟩) (by assumption) ?_
              go_simp
              refine wpAnyH_take (i := 20) (v := (.bool false)) rfl (by kernel_rfl) (by kernel_rfl) (by kernel_rfl) (fun _ _ _ h => h) (Or.inl ⟨by rfl, ?hhz920⟩) (by assumption) ?rrz920
              case hhz920 => (intro wz9 hSw; (try dsimp only at hSw); go_simp; try with_reducible rfl)
              go_simp
              refine wpAnyH_take (i := 21) (v := (.bool false)) rfl (by kernel_rfl) (by kernel_rfl) (by kernel_rfl) (fun _ _ _ h => h) (Or.inl ⟨by rfl, ?hhz921⟩) (by assumption) ?rrz921
              case hhz921 => (intro wz9 hSw; (try dsimp only at hSw); go_simp; try with_reducible rfl)
              go_simp
              refine wpAnyH_done (by kernel_rfl) ?_ _
              go_wp2
              go_roundw
              case rel => exact ⟨j + 1, by go_num, by omega, by omega, HQ, hkr.drew⟩
              case measure => simp [intOf]; omega
            · have h43b : (x == [43]) = false := by simpa using h43
              have h43n : (x != [43]) = true := by simpa using h43
              by_cases hxy : x = y
              · have HQ : Hid (coversL (F.drop (j + 1)) (N.drop (j + 1)) = R) := Lib.hid (by have := HD.out; rw [HU.out, hxy] at this; simpa using this)
                have hxyn : (x != y) = false := by simpa using hxy
                have hxyb : (x == y) = true := by simpa using hxy
                clear hxy h43
                go_wp2
                refine wp_region_held_drew (S := (fun wx => wx.cell? ⟨b, off + j, none⟩ = some (.string ⟨x.toArray⟩) ∧ wx.cell? ⟨b', off' + j, none⟩ = some (.string ⟨y.toArray⟩))) (by kernel_rfl) ?_ (fun hHeld => ?_)
                · exact ⟨hc, hc'⟩
                refine wpAnyH_take (i := 0) (v := ?vvz100) rfl (by kernel_rfl) (by kernel_rfl) (by kernel_rfl) (fun _ _ _ h => h) (Or.inl ⟨by rfl, ?hhz100⟩) (by assumption) ?rrz100
                case hhz100 => (intro wz9 hSw; (try dsimp only at hSw); go_simp; try with_reducible rfl)
                go_simp
                refine wpAnyH_take (i := 1) (v := ?vvz101) rfl (by kernel_rfl) (by kernel_rfl) (by kernel_rfl) (fun _ _ _ h => h) (Or.inl ⟨by rfl, ?hhz101⟩) (by assumption) ?rrz101
                case hhz101 => (intro wz9 hSw; (try dsimp only at hSw); go_simp; try with_reducible rfl)
                go_simp
                refine wpAnyH_take (i := 2) (v := ?vvz102) rfl (by kernel_rfl) (by kernel_rfl) (by kernel_rfl) (fun _ _ _ h => h) (Or.inl ⟨by rfl, ?hhz102⟩) (by assumption) ?rrz102
                case hhz102 => (intro wz9 hSw; (try dsimp only at hSw); go_simp; try with_reducible rfl)
                go_simp
                refine wpAnyH_take (i := 3) (v := (.bool false)) rfl (by kernel_rfl) (by kernel_rfl) (by kernel_rfl) (fun _ _ _ h => h) (Or.inl ⟨by rfl, ?hhz103⟩) (by assumption) ?rrz103
                case hhz103 => (intro wz9 hSw; (try dsimp only at hSw); go_simp; try with_reducible rfl)
                go_simp
                refine wpAnyH_take (i := 4) (v := (.bool false)) rfl (by kernel_rfl) (by kernel_rfl) (by kernel_rfl) (fun _ _ _ h => h) (Or.inl ⟨by rfl, ?hhz104⟩) (by assumption) ?rrz104
                case hhz104 => (intro wz9 hSw; (try dsimp only at hSw); go_simp; try with_reducible rfl)
                go_simp
                refine wpAnyH_take (i := 5) (v := ?vvz105) rfl (by kernel_rfl) (by kernel_rfl) (by kernel_rfl) (fun _ _ _ h => h) (Or.inl ⟨by rfl, ?hhz105⟩) (by assumption) ?rrz105
                case hhz105 => (intro wz9 hSw; (try dsimp only at hSw); go_simp; try with_reducible rfl)
                go_simp
                refine wpAnyH_take (i := 6) (v := ?vvz106) rfl (by kernel_rfl) (by kernel_rfl) (by kernel_rfl) (fun _ _ _ h => h) (Or.inl ⟨by rfl, ?hhz106⟩) (by assumption) ?rrz106
                case hhz106 => (intro wz9 hSw; (try dsimp only at hSw); go_simp; try with_reducible rfl)
                go_simp
                refine wpAnyH_take (i := 7) (v := (.pointer (some ⟨b, off + j, none⟩))) rfl (by kernel_rfl) (by kernel_rfl) (by kernel_rfl) (fun _ _ _ h => h) (Or.inl ⟨by rfl, ?hhz107⟩) (by assumption) ?rrz107
                case hhz107 => (intro wz9 hSw; (try dsimp only at hSw); go_simp; try with_reducible rfl)
                go_simp
                refine wpAnyH_take (i := 8) (v := (.string ⟨x.toArray⟩)) rfl (by kernel_rfl) (by kernel_rfl) (by kernel_rfl) (fun _ _ _ h => h) (Or.inl ⟨by rfl, ?hhz108⟩) (by assumption) ?rrz108
                case hhz108 => (intro wz9 hSw; (try dsimp only at hSw); go_simp; try with_reducible rfl)
                go_simp
                refine wpAnyH_take (i := 9) (v := (.bool true)) rfl (by kernel_rfl) (by kernel_rfl) (by kernel_rfl) (fun _ _ _ h => h) (Or.inl ⟨by rfl, ?hhz109⟩) (by assumption) ?rrz109
                case hhz109 => (intro wz9 hSw; (try dsimp only at hSw); go_simp; try with_reducible rfl)
                go_simp
                refine wpAnyH_take (i := 10) (v := (.bool true)) rfl (by kernel_rfl) (by kernel_rfl) (by kernel_rfl) (fun _ _ _ h => h) (Or.inl ⟨by rfl, ?hhz1010⟩) (by assumption) ?rrz1010
                case hhz1010 => (intro wz9 hSw; (try dsimp only at hSw); go_simp; try with_reducible rfl)
                go_simp
                refine wpAnyH_take (i := 11) (v := ?vvz1011) rfl (by kernel_rfl) (by kernel_rfl) (by kernel_rfl) (fun _ _ _ h => h) (Or.inl ⟨by rfl, ?hhz1011⟩) (by assumption) ?rrz1011
                case hhz1011 => (intro wz9 hSw; (try dsimp only at hSw); go_simp; try with_reducible rfl)
                go_simp
                refine wpAnyH_take (i := 12) (v := ?vvz1012) rfl (by kernel_rfl) (by kernel_rfl) (by kernel_rfl) (fun _ _ _ h => h) (Or.inl ⟨by rfl, ?hhz1012⟩) (by assumption) ?rrz1012
                case hhz1012 => (intro wz9 hSw; (try dsimp only at hSw); go_simp; try with_reducible rfl)
                go_simp
                refine wpAnyH_take (i := 13) (v := (.pointer (some ⟨b, off + j, none⟩))) rfl (by kernel_rfl) (by kernel_rfl) (by kernel_rfl) (fun _ _ _ h => h) (Or.inl ⟨by rfl, ?hhz1013⟩) (by assumption) ?rrz1013
                case hhz1013 => (intro wz9 hSw; (try dsimp only at hSw); go_simp; try with_reducible rfl)
                go_simp
                refine wpAnyH_take (i := 14) (v := (.string ⟨x.toArray⟩)) rfl (by kernel_rfl) (by kernel_rfl) (by kernel_rfl) (fun _ _ _ h => h) (Or.inl ⟨by rfl, ?hhz1014⟩) (by assumption) ?rrz1014
                case hhz1014 => (intro wz9 hSw; (try dsimp only at hSw); go_simp; try with_reducible rfl)
                go_simp
                refine wpAnyH_take (i := 15) (v := ?vvz1015) rfl (by kernel_rfl) (by kernel_rfl) (by kernel_rfl) (fun _ _ _ h => h) (Or.inl ⟨by rfl, ?hhz1015⟩) (by assumption) ?rrz1015
                case hhz1015 => (intro wz9 hSw; (try dsimp only at hSw); go_simp; try with_reducible rfl)
                go_simp
                refine wpAnyH_take (i := 16) (v := ?vvz1016) rfl (by kernel_rfl) (by kernel_rfl) (by kernel_rfl) (fun _ _ _ h => h) (Or.inl ⟨by rfl, ?hhz1016⟩) (by assumption) ?rrz1016
                case hhz1016 => (intro wz9 hSw; (try dsimp only at hSw); go_simp; try with_reducible rfl)
                go_simp
                refine wpAnyH_take (i := 17) (v := (.pointer (some ⟨b', off' + j, none⟩))) rfl (by kernel_rfl) (by kernel_rfl) (by kernel_rfl) (fun _ _ _ h => h) (Or.inl ⟨by rfl, ?hhz1017⟩) (by assumption) ?rrz1017
                case hhz1017 => (intro wz9 hSw; (try dsimp only at hSw); go_simp; try with_reducible rfl)
                go_simp
                refine wpAnyH_take (i := 18) (v := (.string ⟨y.toArray⟩)) rfl (by kernel_rfl) (by kernel_rfl) (by kernel_rfl) (fun _ _ _ h => h) (Or.inl ⟨by rfl, ?hhz1018⟩) (by assumption) ?rrz1018
                case hhz1018 => (intro wz9 hSw; (try dsimp only at hSw); go_simp; try with_reducible rfl)
                go_simp
                refine wpAnyH_take (i := 19) (v := (.bool false)) rfl (by kernel_rfl) (by kernel_rfl) (by kernel_rfl) (fun _ _ _ h => h) (Or.inl ⟨by rfl, ?hhz1019⟩) (by assumption) ?rrz1019
                case hhz1019 => (intro wz9 hSw; (try dsimp only at hSw); go_simp; try with_reducible rfl)
                go_simp
                refine wpAnyH_take (i := 20) (v := (.bool false)) rfl (by kernel_rfl) (by kernel_rfl) (by kernel_rfl) (fun _ _ _ h => h) (Or.inl ⟨by rfl, ?hhz1020⟩) (by assumption) ?rrz1020
                case hhz1020 => (intro wz9 hSw; (try dsimp only at hSw); go_simp; try with_reducible rfl)
                go_simp
                refine wpAnyH_take (i := 21) (v := (.bool false)) rfl (by kernel_rfl) (by kernel_rfl) (by kernel_rfl) (fun _ _ _ h => h) (Or.inl ⟨by rfl, ?hhz1021⟩) (by assumption) ?rrz1021
                case hhz1021 => (intro wz9 hSw; (try dsimp only at hSw); go_simp; try with_reducible rfl)
                go_simp
                refine wpAnyH_done (by kernel_rfl) ?_ _
                go_wp2
                go_roundw
                case rel => exact ⟨j + 1, by go_num, by omega, by omega, HQ, hkr.drew⟩
                case measure => simp [intOf]; omega
              · have HQ : Hid (R = false) := Lib.hid (by have := HD.out; rw [HU.out] at this; simpa [h43, hxy] using this.symm)
                have hxyb : (x == y) = false := by simpa using hxy
                have hxyn : (x != y) = true := by simpa using hxy
                clear hxy h43
                go_wp2
                refine wp_region_held_drew (S := (fun wx => wx.cell? ⟨b, off + j, none⟩ = some (.string ⟨x.toArray⟩) ∧ wx.cell? ⟨b', off' + j, none⟩ = some (.string ⟨y.toArray⟩))) (by kernel_rfl) ?_ (fun hHeld => ?_)
                · exact ⟨hc, hc'⟩
                refine wpAnyH_take (i := 0) (v := ?vvz110) rfl (by kernel_rfl) (by kernel_rfl) (by kernel_rfl) (fun _ _ _ h => h) (Or.inl ⟨by rfl, ?hhz110⟩) (by assumption) ?rrz110
                case hhz110 => (intro wz9 hSw; (try dsimp only at hSw); go_simp; try with_reducible rfl)
                go_simp
                refine wpAnyH_take (i := 1) (v := ?vvz111) rfl (by kernel_rfl) (by kernel_rfl) (by kernel_rfl) (fun _ _ _ h => h) (Or.inl ⟨by rfl, ?hhz111⟩) (by assumption) ?rrz111
                case hhz111 => (intro wz9 hSw; (try dsimp only at hSw); go_simp; try with_reducible rfl)
                go_simp
                refine wpAnyH_take (i := 2) (v := ?vvz112) rfl (by kernel_rfl) (by kernel_rfl) (by kernel_rfl) (fun _ _ _ h => h) (Or.inl ⟨by rfl, ?hhz112⟩) (by assumption) ?rrz112
                case hhz112 => (intro wz9 hSw; (try dsimp only at hSw); go_simp; try with_reducible rfl)
                go_simp
                refine wpAnyH_take (i := 3) (v := (.bool false)) rfl (by kernel_rfl) (by kernel_rfl) (by kernel_rfl) (fun _ _ _ h => h) (Or.inl ⟨by rfl, ?hhz113⟩) (by assumption) ?rrz113
                case hhz113 => (intro wz9 hSw; (try dsimp only at hSw); go_simp; try with_reducible rfl)
                go_simp
                refine wpAnyH_take (i := 4) (v := (.bool false)) rfl (by kernel_rfl) (by kernel_rfl) (by kernel_rfl) (fun _ _ _ h => h) (Or.inl ⟨by rfl, ?hhz114⟩) (by assumption) ?rrz114
                case hhz114 => (intro wz9 hSw; (try dsimp only at hSw); go_simp; try with_reducible rfl)
                go_simp
                refine wpAnyH_take (i := 5) (v := ?vvz115) rfl (by kernel_rfl) (by kernel_rfl) (by kernel_rfl) (fun _ _ _ h => h) (Or.inl ⟨by rfl, ?hhz115⟩) (by assumption) ?rrz115
                case hhz115 => (intro wz9 hSw; (try dsimp only at hSw); go_simp; try with_reducible rfl)
                go_simp
                refine wpAnyH_take (i := 6) (v := ?vvz116) rfl (by kernel_rfl) (by kernel_rfl) (by kernel_rfl) (fun _ _ _ h => h) (Or.inl ⟨by rfl, ?hhz116⟩) (by assumption) ?rrz116
                case hhz116 => (intro wz9 hSw; (try dsimp only at hSw); go_simp; try with_reducible rfl)
                go_simp
                refine wpAnyH_take (i := 7) (v := (.pointer (some ⟨b, off + j, none⟩))) rfl (by kernel_rfl) (by kernel_rfl) (by kernel_rfl) (fun _ _ _ h => h) (Or.inl ⟨by rfl, ?hhz117⟩) (by assumption) ?rrz117
                case hhz117 => (intro wz9 hSw; (try dsimp only at hSw); go_simp; try with_reducible rfl)
                go_simp
                refine wpAnyH_take (i := 8) (v := (.string ⟨x.toArray⟩)) rfl (by kernel_rfl) (by kernel_rfl) (by kernel_rfl) (fun _ _ _ h => h) (Or.inl ⟨by rfl, ?hhz118⟩) (by assumption) ?rrz118
                case hhz118 => (intro wz9 hSw; (try dsimp only at hSw); go_simp; try with_reducible rfl)
                go_simp
                refine wpAnyH_take (i := 9) (v := (.bool true)) rfl (by kernel_rfl) (by kernel_rfl) (by kernel_rfl) (fun _ _ _ h => h) (Or.inl ⟨by rfl, ?hhz119⟩) (by assumption) ?rrz119
                case hhz119 => (intro wz9 hSw; (try dsimp only at hSw); go_simp; try with_reducible rfl)
                go_simp
                refine wpAnyH_take (i := 10) (v := (.bool true)) rfl (by kernel_rfl) (by kernel_rfl) (by kernel_rfl) (fun _ _ _ h => h) (Or.inl ⟨by rfl, ?hhz1110⟩) (by assumption) ?rrz1110
                case hhz1110 => (intro wz9 hSw; (try dsimp only at hSw); go_simp; try with_reducible rfl)
                go_simp
                refine wpAnyH_take (i := 11) (v := ?vvz1111) rfl (by kernel_rfl) (by kernel_rfl) (by kernel_rfl) (fun _ _ _ h => h) (Or.inl ⟨by rfl, ?hhz1111⟩) (by assumption) ?rrz1111
                case hhz1111 => (intro wz9 hSw; (try dsimp only at hSw); go_simp; try with_reducible rfl)
                go_simp
                refine wpAnyH_take (i := 12) (v := ?vvz1112) rfl (by kernel_rfl) (by kernel_rfl) (by kernel_rfl) (fun _ _ _ h => h) (Or.inl ⟨by rfl, ?hhz1112⟩) (by assumption) ?rrz1112
                case hhz1112 => (intro wz9 hSw; (try dsimp only at hSw); go_simp; try with_reducible rfl)
                go_simp
                refine wpAnyH_take (i := 13) (v := (.pointer (some ⟨b, off + j, none⟩))) rfl (by kernel_rfl) (by kernel_rfl) (by kernel_rfl) (fun _ _ _ h => h) (Or.inl ⟨by rfl, ?hhz1113⟩) (by assumption) ?rrz1113
                case hhz1113 => (intro wz9 hSw; (try dsimp only at hSw); go_simp; try with_reducible rfl)
                go_simp
                refine wpAnyH_take (i := 14) (v := (.string ⟨x.toArray⟩)) rfl (by kernel_rfl) (by kernel_rfl) (by kernel_rfl) (fun _ _ _ h => h) (Or.inl ⟨by rfl, ?hhz1114⟩) (by assumption) ?rrz1114
                case hhz1114 => (intro wz9 hSw; (try dsimp only at hSw); go_simp; try with_reducible rfl)
                go_simp
                refine wpAnyH_take (i := 15) (v := ?vvz1115) rfl (by kernel_rfl) (by kernel_rfl) (by kernel_rfl) (fun _ _ _ h => h) (Or.inl ⟨by rfl, ?hhz1115⟩) (by assumption) ?rrz1115
                case hhz1115 => (intro wz9 hSw; (try dsimp only at hSw); go_simp; try with_reducible rfl)
                go_simp
                refine wpAnyH_take (i := 16) (v := ?vvz1116) rfl (by kernel_rfl) (by kernel_rfl) (by kernel_rfl) (fun _ _ _ h => h) (Or.inl ⟨by rfl, ?hhz1116⟩) (by assumption) ?rrz1116
                case hhz1116 => (intro wz9 hSw; (try dsimp only at hSw); go_simp; try with_reducible rfl)
                go_simp
                refine wpAnyH_take (i := 17) (v := (.pointer (some ⟨b', off' + j, none⟩))) rfl (by kernel_rfl) (by kernel_rfl) (by kernel_rfl) (fun _ _ _ h => h) (Or.inl ⟨by rfl, ?hhz1117⟩) (by assumption) ?rrz1117
                case hhz1117 => (intro wz9 hSw; (try dsimp only at hSw); go_simp; try with_reducible rfl)
                go_simp
                refine wpAnyH_take (i := 18) (v := (.string ⟨y.toArray⟩)) rfl (by kernel_rfl) (by kernel_rfl) (by kernel_rfl) (fun _ _ _ h => h) (Or.inl ⟨by rfl, ?hhz1118⟩) (by assumption) ?rrz1118
                case hhz1118 => (intro wz9 hSw; (try dsimp only at hSw); go_simp; try with_reducible rfl)
                go_simp
                refine wpAnyH_take (i := 19) (v := (.bool true)) rfl (by kernel_rfl) (by kernel_rfl) (by kernel_rfl) (fun _ _ _ h => h) (Or.inl ⟨by rfl, ?hhz1119⟩) (by assumption) ?rrz1119
                case hhz1119 => (intro wz9 hSw; (try dsimp only at hSw); go_simp; try with_reducible rfl)
                go_simp
                refine wpAnyH_take (i := 20) (v := (.bool true)) rfl (by kernel_rfl) (by kernel_rfl) (by kernel_rfl) (fun _ _ _ h => h) (Or.inl ⟨by rfl, ?hhz1120⟩) (by assumption) ?rrz1120
                case hhz1120 => (intro wz9 hSw; (try dsimp only at hSw); go_simp; try with_reducible rfl)
                go_simp
                refine wpAnyH_take (i := 21) (v := (.bool true)) rfl (by kernel_rfl) (by kernel_rfl) (by kernel_rfl) (fun _ _ _ h => h) (Or.inl ⟨by rfl, ?hhz1121⟩) (by assumption) ?rrz1121
                case hhz1121 => (intro wz9 hSw; (try dsimp only at hSw); go_simp; try with_reducible rfl)
                go_simp
                refine wpAnyH_done (by kernel_rfl) ?_ _
                go_wp2
                go_ret
                exact ⟨by rw [HQ.out]; rfl, ((((hk1.trans hk2).trans hk3).trans hk4).trans hk5).trans (hkr.drew)⟩
          · have hje : decide ((N.length : Int) ≤ (j : Int)) = true := by simp; omega
            have hjI : (N.length : Int) ≤ j := by omega
            have HQ : Hid (R = false) := Lib.hid (by rw [← HD.out, HX.out, show N.drop j = [] from List.drop_of_length_le (by omega), covers_end h35])
            go_wp2
            refine wp_region_held_drew (S := (fun wx => wx.cell? ⟨b, off + j, none⟩ = some (.string ⟨x.toArray⟩))) (by kernel_rfl) ?_ (fun hHeld => ?_)
            · exact hc
            refine wpAnyH_take (i := 0) (v := ?vvz120) rfl (by kernel_rfl) (by kernel_rfl) (by kernel_rfl) (fun _ _ _ h => h) (Or.inl ⟨by rfl, ?hhz120⟩) (by assumption) ?rrz120
            case hhz120 => (intro wz9 hSw; (try dsimp only at hSw); go_simp; try with_reducible rfl)
            go_simp
            refine wpAnyH_take (i := 1) (v := ?vvz121) rfl (by kernel_rfl) (by kernel_rfl) (by kernel_rfl) (fun _ _ _ h => h) (Or.inl ⟨by rfl, ?hhz121⟩) (by assumption) ?rrz121
            case hhz121 => (intro wz9 hSw; (try dsimp only at hSw); go_simp; try with_reducible rfl)
            go_simp
            refine wpAnyH_take (i := 2) (v := ?vvz122) rfl (by kernel_rfl) (by kernel_rfl) (by kernel_rfl) (fun _ _ _ h => h) (Or.inl ⟨by rfl, ?hhz122⟩) (by assumption) ?rrz122
            case hhz122 => (intro wz9 hSw; (try dsimp only at hSw); go_simp; try with_reducible rfl)
            go_simp
            refine wpAnyH_take (i := 3) (v := (.bool true)) rfl (by kernel_rfl) (by kernel_rfl) (by kernel_rfl) (fun _ _ _ h => h) (Or.inl ⟨by rfl, ?hhz123⟩) (by assumption) ?rrz123
            case hhz123 => (intro wz9 hSw; (try dsimp only at hSw); go_simp; try with_reducible rfl)
            go_simp
            refine wpAnyH_take (i := 4) (v := (.bool true)) rfl (by kernel_rfl) (by kernel_rfl) (by kernel_rfl) (fun _ _ _ h => h) (Or.inl ⟨by rfl, ?hhz124⟩) (by assumption) ?rrz124
            case hhz124 => (intro wz9 hSw; (try dsimp only at hSw); go_simp; try with_reducible rfl)
            go_simp
            refine wpAnyH_take (i := 5) (v := undef) rfl (by kernel_rfl) (by kernel_rfl) (by kernel_rfl) (fun _ _ _ h => h) (Or.inr ⟨by rfl, rfl⟩) (by assumption) ?_
            go_simp
            refine wpAnyH_take (i := 6) (v := undef) rfl (by kernel_rfl) (by kernel_rfl) (by kernel_rfl) (fun _ _ _ h => h) (Or.inr ⟨by rfl, rfl⟩) (by assumption) ?_
            go_simp
            refine wpAnyH_take (i := 7) (v := undef) rfl (by kernel_rfl) (by kernel_rfl) (by kernel_rfl) (fun _ _ _ h => h) (Or.inr ⟨by rfl, rfl⟩) (by assumption) ?_
            go_simp
            refine wpAnyH_take (i := 8) (v := undef) rfl (by kernel_rfl) (by kernel_rfl) (by kernel_rfl) (fun _ _ _ h => h) (Or.inr ⟨by rfl, rfl⟩) (by assumption) ?_
            go_simp
            refine wpAnyH_take (i := 9) (v := undef) rfl (by kernel_rfl) (by kernel_rfl) (by kernel_rfl) (fun _ _ _ h => h) (Or.inr ⟨by rfl, rfl⟩) (by assumption) ?_
            go_simp
            refine wpAnyH_take (i := 10) (v := undef) rfl (by kernel_rfl) (by kernel_rfl) (by kernel_rfl) (fun _ _ _ h => h) (Or.inr ⟨by rfl, rfl⟩) (by assumption) ?_
            go_simp
            refine wpAnyH_take (i := 11) (v := undef) rfl (by kernel_rfl) (by kernel_rfl) (by kernel_rfl) (fun _ _ _ h => h) (Or.inr ⟨by rfl, rfl⟩) (by assumption) ?_
            go_simp
            refine wpAnyH_take (i := 12) (v := undef) rfl (by kernel_rfl) (by kernel_rfl) (by kernel_rfl) (fun _ _ _ h => h) (Or.inr ⟨by rfl, rfl⟩) (by assumption) ?_
            go_simp
            refine wpAnyH_take (i := 13) (v := undef) rfl (by kernel_rfl) (by kernel_rfl) (by kernel_rfl) (fun _ _ _ h => h) (Or.inr ⟨by rfl, rfl⟩) (by assumption) ?_
            go_simp
            refine wpAnyH_take (i := 14) (v := undef) rfl (by kernel_rfl) (by kernel_rfl) (by kernel_rfl) (fun _ _ _ h => h) (Or.inr ⟨by rfl, rfl⟩) (by assumption) ?_
            go_simp
            refine wpAnyH_take (i := 15) (v := undef) rfl (by kernel_rfl) (by kernel_rfl) (by kernel_rfl) (fun _ _ _ h => h) (Or.inr ⟨by rfl, rfl⟩) (by assumption) ?_
            go_simp
            refine wpAnyH_take (i := 16) (v := undef) rfl (by kernel_rfl) (by kernel_rfl) (by kernel_rfl) (fun _ _ _ h => h) (Or.inr ⟨by rfl, rfl⟩) (by assumption) ?_
            go_simp
            refine wpAnyH_take (i := 17) (v := undef) rfl (by kernel_rfl) (by kernel_rfl) (by kernel_rfl) (fun _ _ _ h => h) (Or.inr ⟨by rfl, rfl⟩) (by assumption) ?_
            go_simp
            refine wpAnyH_take (i := 18) (v := undef) rfl (by kernel_rfl) (by kernel_rfl) (by kernel_rfl) (fun _ _ _ h => h) (Or.inr ⟨by rfl, rfl⟩) (by assumption) ?_
            go_simp
            refine wpAnyH_take (i := 19) (v := undef) rfl (by kernel_rfl) (by kernel_rfl) (by kernel_rfl) (fun _ _ _ h => h) (Or.inr ⟨by rfl, rfl⟩) (by assumption) ?_
            go_simp
            refine wpAnyH_take (i := 20) (v := undef) rfl (by kernel_rfl) (by kernel_rfl) (by kernel_rfl) (fun _ _ _ h => h) (Or.inr ⟨by rfl, rfl⟩) (by assumption) ?_
            go_simp
            refine wpAnyH_take (i := 21) (v := (.bool true)) rfl (by kernel_rfl) (by kernel_rfl) (by kernel_rfl) (fun _ _ _ h => h) (Or.inl ⟨by rfl, ?hhz1221⟩) (by assumption) ?rrz1221
            case hhz1221 => (intro wz9 hSw; (try dsimp only at hSw); go_simp; try with_reducible rfl)
            go_simp
            refine wpAnyH_done (by kernel_rfl) ?_ _
            go_wp2
            go_ret
            exact ⟨by rw [HQ.out]; rfl, ((((hk1.trans hk2).trans hk3).trans hk4).trans hk5).trans (hkr.drew)⟩
      · have hF0 : F.drop j = [] := List.drop_of_length_le (by omega)
        have HQ : Hid (R = decide (F.length = N.length)) := Lib.hid (by
          rw [← HD.out, hF0, coversL]
          by_cases he : F.length = N.length
          · rw [List.drop_of_length_le (by omega), decide_eq_true he]; rfl
          · rw [decide_eq_false he]
            cases hd : N.drop j with
            | nil => have := congrArg List.length hd; simp at this; omega
            | cons _ _ => rfl)
        have HB : Hid (((F.length : Int) == (N.length : Int)) = decide (F.length = N.length)) := Lib.hid (by
          by_cases he : F.length = N.length
          · rw [decide_eq_true he]; simp [he]
          · rw [decide_eq_false he]; simp; omega)
        clear hF0
        go_wp2
        go_ret
        exact ⟨by rw [HQ.out, ← HB.out]; rfl, ((((hk1.trans hk2).trans hk3).trans hk4).trans hk5).trans hkr⟩
  · have e36 : ((n[0].toNat : Int) == 36) = false := byte_bne h36
    clear h36 hw
    go_enter Tryd.func20, Tryd.ntmps20
    go_wp2_with (first
      | (go_at_call 16; refine (HF.out _).mono ?_; rintro e w1 ⟨rfl, hk1⟩)
      | (go_at_call 14; refine (HN.out _).mono ?_; rintro e w2 ⟨rfl, hk2⟩)
      | (go_at_call 41; refine (HS.out _).mono ?_; rintro e w3 ⟨rfl, hk3⟩)
      | (go_at_call 22; (with_reducible refine (HA.out _).mono ?_); rintro e w4 ⟨a, c, rfl, hra, hk4⟩)
      | (go_at_call 22; refine (HB2.out _).mono ?_; rintro e w5 ⟨a', c', rfl, hrb, hk5⟩; have hra := hra.keptNo hk5))
    go_loopw [10] (fun i wr => ∃ j : Nat, i = .int .i64 j ∧ j ≤ F.length ∧ j ≤ N.length ∧ Hid (coversL (F.drop j) (N.drop j) = R) ∧ Kept No w5 wr) (fun i _ => F.length - (intOf i).toNat)
    case atStart => exact ⟨0, rfl, by omega, by omega, Lib.hid (by rw [List.drop_zero, List.drop_zero]; exact HR.out), Kept.refl _ _⟩
    case round =>
      obtain ⟨j, rfl, hj, hjN, HD, hkr⟩ := hrel
      by_cases hlt : j < F.length
      · have HX := Lib.hid (show F.drop j = F[j] :: F.drop (j + 1) from List.drop_eq_getElem_cons hlt)
        obtain ⟨b, off, rfl, hc⟩ := strs_at (hra.keptNo hkr) j hlt
        generalize F[j] = x at *
        by_cases h35 : x = [35]
        · subst h35
          have HQ : Hid (R = true) := Lib.hid (by rw [← HD.out, HX.out, covers_rest])
          go_wp2
          go_ret
          exact ⟨by rw [HQ.out]; rfl, ((((hk1.trans hk2).trans hk3).trans hk4).trans hk5).trans hkr⟩
        · have h35b : (x == [35]) = false := by simpa using h35
          by_cases hNl : j < N.length
          · have HY := Lib.hid (show N.drop j = N[j] :: N.drop (j + 1) from List.drop_eq_getElem_cons hNl)
            obtain ⟨b', off', rfl, hc'⟩ := strs_at (hrb.keptNo hkr) j hNl
            generalize N[j] = y at *
            have hne : decide ((N.length : Int) ≤ (j : Int)) = false := by simp; omega
            have hjI : (j : Int) < N.length := by omega
            have hjF : (j : Int) < F.length := by omega
            have HU : Hid (coversL (F.drop j) (N.drop j) = ((decide (x = [43]) || decide (x = y)) && coversL (F.drop (j + 1)) (N.drop (j + 1)))) := Lib.hid (by rw [HX.out, HY.out, covers_step h35])
            by_cases h43 : x = [43]
            · have HQ : Hid (coversL (F.drop (j + 1)) (N.drop (j + 1)) = R) := Lib.hid (by have := HD.out; rw [HU.out, h43] at this; simpa using this)
              have h43n : (x != [43]) = false := by simpa using h43
              have h43b : (x == [43]) = true := by simpa using h43
              clear h43
              go_wp2
              refine wp_region_held_drew (S := (fun wx => wx.cell? ⟨b, off + j, none⟩ = some (.string ⟨x.toArray⟩) ∧ wx.cell? ⟨b', off' + j, none⟩ = some (.string ⟨y.toArray⟩))) (by kernel_rfl) ?_ (fun hHeld => ?_)
              · exact ⟨hc, hc'⟩
              refine wpAnyH_take (i := 0) (v := ?vvz130) rfl (by kernel_rfl) (by kernel_rfl) (by kernel_rfl) (fun _ _ _ h => h) (Or.inl ⟨by rfl, ?hhz130⟩) (by assumption) ?rrz130
              case hhz130 => (intro wz9 hSw; (try dsimp only at hSw); go_simp; try with_reducible rfl)
              go_simp
              refine wpAnyH_take (i := 1) (v := ?vvz131) rfl (by kernel_rfl) (by kernel_rfl) (by kernel_rfl) (fun _ _ _ h => h) (Or.inl ⟨by rfl, ?hhz131⟩) (by assumption) ?rrz131
              case hhz131 => (intro wz9 hSw; (try dsimp only at hSw); go_simp; try with_reducible rfl)
              go_simp
              refine wpAnyH_take (i := 2) (v := ?vvz132) rfl (by kernel_rfl) (by kernel_rfl) (by kernel_rfl) (fun _ _ _ h => h) (Or.inl ⟨by rfl, ?hhz132⟩) (by assumption) ?rrz132
              case hhz132 => (intro wz9 hSw; (try dsimp only at hSw); go_simp; try with_reducible rfl)
              go_simp
              refine wpAnyH_take (i := 3) (v := (.bool false)) rfl (by kernel_rfl) (by kernel_rfl) (by kernel_rfl) (fun _ _ _ h => h) (Or.inl ⟨by rfl, ?hhz133⟩) (by assumption) ?rrz133
              case hhz133 => (intro wz9 hSw; (try dsimp only at hSw); go_simp; try with_reducible rfl)
              go_simp
              refine wpAnyH_take (i := 4) (v := (.bool false)) rfl (by kernel_rfl) (by kernel_rfl) (by kernel_rfl) (fun _ _ _ h => h) (Or.inl ⟨by rfl, ?hhz134⟩) (by assumption) ?rrz134
              case hhz134 => (intro wz9 hSw; (try dsimp only at hSw); go_simp; try with_reducible rfl)
              go_simp
              refine wpAnyH_take (i := 5) (v := ?vvz135) rfl (by kernel_rfl) (by kernel_rfl) (by kernel_rfl) (fun _ _ _ h => h) (Or.inl ⟨by rfl, ?hhz135⟩) (by assumption) ?rrz135
              case hhz135 => (intro wz9 hSw; (try dsimp only at hSw); go_simp; try with_reducible rfl)
              go_simp
              refine wpAnyH_take (i := 6) (v := ?vvz136) rfl (by kernel_rfl) (by kernel_rfl) (by kernel_rfl) (fun _ _ _ h => h) (Or.inl ⟨by rfl, ?hhz136⟩) (by assumption) ?rrz136
              case hhz136 => (intro wz9 hSw; (try dsimp only at hSw); go_simp; try with_reducible rfl)
              go_simp
              refine wpAnyH_take (i := 7) (v := (.pointer (some ⟨b, off + j, none⟩))) rfl (by kernel_rfl) (by kernel_rfl) (by kernel_rfl) (fun _ _ _ h => h) (Or.inl ⟨by rfl, ?hhz137⟩) (by assumption) ?rrz137
              case hhz137 => (intro wz9 hSw; (try dsimp only at hSw); go_simp; try with_reducible rfl)
              go_simp
              refine wpAnyH_take (i := 8) (v := (.string ⟨x.toArray⟩)) rfl (by kernel_rfl) (by kernel_rfl) (by kernel_rfl) (fun _ _ _ h => h) (Or.inl ⟨by rfl, ?hhz138⟩) (by assumption) ?rrz138
              case hhz138 => (intro wz9 hSw; (try dsimp only at hSw); go_simp; try with_reducible rfl)
              go_simp
              refine wpAnyH_take (i := 9) (v := (.bool false)) rfl (by kernel_rfl) (by kernel_rfl) (by kernel_rfl) (fun _ _ _ h => h) (Or.inl ⟨by rfl, ?hhz139⟩) (by assumption) ?rrz139
              case hhz139 => (intro wz9 hSw; (try dsimp only at hSw); go_simp; try with_reducible rfl)
              go_simp
              refine wpAnyH_take (i := 10) (v := (.bool false)) rfl (by kernel_rfl) (by kernel_rfl) (by kernel_rfl) (fun _ _ _ h => h) (Or.inl ⟨by rfl, ?hhz1310⟩) (by assumption) ?rrz1310
              case hhz1310 => (intro wz9 hSw; (try dsimp only at hSw); go_simp; try with_reducible rfl)
              go_simp
              refine wpAnyH_take (i := 11) (v := undef) rfl (by kernel_rfl) (by kernel_rfl) (by kernel_rfl) (fun _ _ _ h => h) (Or.inr ⟨by rfl, rfl⟩) (by assumption) ?_
              go_simp
              refine wpAnyH_take (i := 12) (v := undef) rfl (by kernel_rfl) (by kernel_rfl) (by kernel_rfl) (fun _ _ _ h => h) (Or.inr ⟨by rfl, rfl⟩) (by assumption) ?_
              go_simp
              refine wpAnyH_take (i := 13) (v := undef) rfl (by kernel_rfl) (by kernel_rfl) (by kernel_rfl) (fun _ _ _ h => h) (Or.inr ⟨by rfl, rfl⟩) (by assumption) ?_
              go_simp
              refine wpAnyH_take (i := 14) (v := undef) rfl (by kernel_rfl) (by kernel_rfl) (by kernel_rfl) (fun _ _ _ h => h) (Or.inr ⟨by rfl, rfl⟩) (by assumption) ?_
              go_simp
              refine wpAnyH_take (i := 15) (v := undef) rfl (by kernel_rfl) (by kernel_rfl) (by kernel_rfl) (fun _ _ _ h => h) (Or.inr ⟨by rfl, rfl⟩) (by assumption) ?_
              go_simp
              refine wpAnyH_take (i := 16) (v := undef) rfl (by kernel_rfl) (by kernel_rfl) (by kernel_rfl) (fun _ _ _ h => h) (Or.inr ⟨by rfl, rfl⟩) (by assumption) ?_
              go_simp
              refine wpAnyH_take (i := 17) (v := undef) rfl (by kernel_rfl) (by kernel_rfl) (by kernel_rfl) (fun _ _ _ h => h) (Or.inr ⟨by rfl, rfl⟩) (by assumption) ?_
              go_simp
              refine wpAnyH_take (i := 18) (v := undef) rfl (by kernel_rfl) (by kernel_rfl) (by kernel_rfl) (fun _ _ _ h => h) (Or.inr ⟨by rfl, rfl⟩) (by assumption) ?_
              go_simp
              refine wpAnyH_take (i := 19) (v := undef) rfl (by kernel_rfl) (by kernel_rfl) (by kernel_rfl) (fun _ _ _ h => h) (Or.inr ⟨by rfl, rfl⟩) (by assumption) ?_
              go_simp
              refine wpAnyH_take (i := 20) (v := (.bool false)) rfl (by kernel_rfl) (by kernel_rfl) (by kernel_rfl) (fun _ _ _ h => h) (Or.inl ⟨by rfl, ?hhz1320⟩) (by assumption) ?rrz1320
              case hhz1320 => (intro wz9 hSw; (try dsimp only at hSw); go_simp; try with_reducible rfl)
              go_simp
              refine wpAnyH_take (i := 21) (v := (.bool false)) rfl (by kernel_rfl) (by kernel_rfl) (by kernel_rfl) (fun _ _ _ h => h) (Or.inl ⟨by rfl, ?hhz1321⟩) (by assumption) ?rrz1321
              case hhz1321 => (intro wz9 hSw; (try dsimp only at hSw); go_simp; try with_reducible rfl)
              go_simp
              refine wpAnyH_done (by kernel_rfl) ?_ _
              go_wp2
              go_roundw
              case rel => exact ⟨j + 1, by go_num, by omega, by omega, HQ, hkr.drew⟩
              case measure => simp [intOf]; omega
            · have h43b : (x == [43]) = false := by simpa using h43
              have h43n : (x != [43]) = true := by simpa using h43
              by_cases hxy : x = y
              · have HQ : Hid (coversL (F.drop (j + 1)) (N.drop (j + 1)) = R) := Lib.hid (by have := HD.out; rw [HU.out, hxy] at this; simpa using this)
                have hxyn : (x != y) = false := by simpa using hxy
                have hxyb : (x == y) = true := by simpa using hxy
                clear hxy h43
                go_wp2
                refine wp_region_held_drew (S := (fun wx => wx.cell? ⟨b, off + j, none⟩ = some (.string ⟨x.toArray⟩) ∧ wx.cell? ⟨b', off' + j, none⟩ = some (.string ⟨y.toArray⟩))) (by kernel_rfl) ?_ (fun hHeld => ?_)
                · exact ⟨hc, hc'⟩
                refine wpAnyH_take (i := 0) (v := ?vvz140) rfl (by kernel_rfl) (by kernel_rfl) (by kernel_rfl) (fun _ _ _ h => h) (Or.inl ⟨by rfl, ?hhz140⟩) (by assumption) ?rrz140
                case hhz140 => (intro wz9 hSw; (try dsimp only at hSw); go_simp; try with_reducible rfl)
                go_simp
                refine wpAnyH_take (i := 1) (v := ?vvz141) rfl (by kernel_rfl) (by kernel_rfl) (by kernel_rfl) (fun _ _ _ h => h) (Or.inl ⟨by rfl, ?hhz141⟩) (by assumption) ?rrz141
                case hhz141 => (intro wz9 hSw; (try dsimp only at hSw); go_simp; try with_reducible rfl)
                go_simp
                refine wpAnyH_take (i := 2) (v := ?vvz142) rfl (by kernel_rfl) (by kernel_rfl) (by kernel_rfl) (fun _ _ _ h => h) (Or.inl ⟨by rfl, ?hhz142⟩) (by assumption) ?rrz142
                case hhz142 => (intro wz9 hSw; (try dsimp only at hSw); go_simp; try with_reducible rfl)
                go_simp
                refine wpAnyH_take (i := 3) (v := (.bool false)) rfl (by kernel_rfl) (by kernel_rfl) (by kernel_rfl) (fun _ _ _ h => h) (Or.inl ⟨by rfl, ?hhz143⟩) (by assumption) ?rrz143
                case hhz143 => (intro wz9 hSw; (try dsimp only at hSw); go_simp; try with_reducible rfl)
                go_simp
                refine wpAnyH_take (i := 4) (v := (.bool false)) rfl (by kernel_rfl) (by kernel_rfl) (by kernel_rfl) (fun _ _ _ h => h) (Or.inl ⟨by rfl, ?hhz144⟩) (by assumption) ?rrz144
                case hhz144 => (intro wz9 hSw; (try dsimp only at hSw); go_simp; try with_reducible rfl)
                go_simp
                refine wpAnyH_take (i := 5) (v := ?vvz145) rfl (by kernel_rfl) (by kernel_rfl) (by kernel_rfl) (fun _ _ _ h => h) (Or.inl ⟨by rfl, ?hhz145⟩) (by assumption) ?rrz145
                case hhz145 => (intro wz9 hSw; (try dsimp only at hSw); go_simp; try with_reducible rfl)
                go_simp
                refine wpAnyH_take (i := 6) (v := ?vvz146) rfl (by kernel_rfl) (by kernel_rfl) (by kernel_rfl) (fun _ _ _ h => h) (Or.inl ⟨by rfl, ?hhz146⟩) (by assumption) ?rrz146
                case hhz146 => (intro wz9 hSw; (try dsimp only at hSw); go_simp; try with_reducible rfl)
                go_simp
                refine wpAnyH_take (i := 7) (v := (.pointer (some ⟨b, off + j, none⟩))) rfl (by kernel_rfl) (by kernel_rfl) (by kernel_rfl) (fun _ _ _ h => h) (Or.inl ⟨by rfl, ?hhz147⟩) (by assumption) ?rrz147
                case hhz147 => (intro wz9 hSw; (try dsimp only at hSw); go_simp; try with_reducible rfl)
                go_simp
                refine wpAnyH_take (i := 8) (v := (.string ⟨x.toArray⟩)) rfl (by kernel_rfl) (by kernel_rfl) (by kernel_rfl) (fun _ _ _ h => h) (Or.inl ⟨by rfl, ?hhz148⟩) (by assumption) ?rrz148
                case hhz148 => (intro wz9 hSw; (try dsimp only at hSw); go_simp; try with_reducible rfl)
                go_simp
                refine wpAnyH_take (i := 9) (v := (.bool true)) rfl (by kernel_rfl) (by kernel_rfl) (by kernel_rfl) (fun _ _ _ h => h) (Or.inl ⟨by rfl, ?hhz149⟩) (by assumption) ?rrz149
                case hhz149 => (intro wz9 hSw; (try dsimp only at hSw); go_simp; try with_reducible rfl)
                go_simp
                refine wpAnyH_take (i := 10) (v := (.bool true)) rfl (by kernel_rfl) (by kernel_rfl) (by kernel_rfl) (fun _ _ _ h => h) (Or.inl ⟨by rfl, ?hhz1410⟩) (by assumption) ?rrz1410
                case hhz1410 => (intro wz9 hSw; (try dsimp only at hSw); go_simp; try with_reducible rfl)
                go_simp
                refine wpAnyH_take (i := 11) (v := ?vvz1411) rfl (by kernel_rfl) (by kernel_rfl) (by kernel_rfl) (fun _ _ _ h => h) (Or.inl ⟨by rfl, ?hhz1411⟩) (by assumption) ?rrz1411
                case hhz1411 => (intro wz9 hSw; (try dsimp only at hSw); go_simp; try with_reducible rfl)
                go_simp
                refine wpAnyH_take (i := 12) (v := ?vvz1412) rfl (by kernel_rfl) (by kernel_rfl) (by kernel_rfl) (fun _ _ _ h => h) (Or.inl ⟨by rfl, ?hhz1412⟩) (by assumption) ?rrz1412
                case hhz1412 => (intro wz9 hSw; (try dsimp only at hSw); go_simp; try with_reducible rfl)
                go_simp
                refine wpAnyH_take (i := 13) (v := (.pointer (some ⟨b, off + j, none⟩))) rfl (by kernel_rfl) (by kernel_rfl) (by kernel_rfl) (fun _ _ _ h => h) (Or.inl ⟨by rfl, ?hhz1413⟩) (by assumption) ?rrz1413
                case hhz1413 => (intro wz9 hSw; (try dsimp only at hSw); go_simp; try with_reducible rfl)
                go_simp
                refine wpAnyH_take (i := 14) (v := (.string ⟨x.toArray⟩)) rfl (by kernel_rfl) (by kernel_rfl) (by kernel_rfl) (fun _ _ _ h => h) (Or.inl ⟨by rfl, ?hhz1414⟩) (by assumption) ?rrz1414
                case hhz1414 => (intro wz9 hSw; (try dsimp only at hSw); go_simp; try with_reducible rfl)
                go_simp
                refine wpAnyH_take (i := 15) (v := ?vvz1415) rfl (by kernel_rfl) (by kernel_rfl) (by kernel_rfl) (fun _ _ _ h => h) (Or.inl ⟨by rfl, ?hhz1415⟩) (by assumption) ?rrz1415
                case hhz1415 => (intro wz9 hSw; (try dsimp only at hSw); go_simp; try with_reducible rfl)
                go_simp
                refine wpAnyH_take (i := 16) (v := ?vvz1416) rfl (by kernel_rfl) (by kernel_rfl) (by kernel_rfl) (fun _ _ _ h => h) (Or.inl ⟨by rfl, ?hhz1416⟩) (by assumption) ?rrz1416
                case hhz1416 => (intro wz9 hSw; (try dsimp only at hSw); go_simp; try with_reducible rfl)
                go_simp
                refine wpAnyH_take (i := 17) (v := (.pointer (some ⟨b', off' + j, none⟩))) rfl (by kernel_rfl) (by kernel_rfl) (by kernel_rfl) (fun _ _ _ h => h) (Or.inl ⟨by rfl, ?hhz1417⟩) (by assumption) ?rrz1417
                case hhz1417 => (intro wz9 hSw; (try dsimp only at hSw); go_simp; try with_reducible rfl)
                go_simp
                refine wpAnyH_take (i := 18) (v := (.string ⟨y.toArray⟩)) rfl (by kernel_rfl) (by kernel_rfl) (by kernel_rfl) (fun _ _ _ h => h) (Or.inl ⟨by rfl, ?hhz1418⟩) (by assumption) ?rrz1418
                case hhz1418 => (intro wz9 hSw; (try dsimp only at hSw); go_simp; try with_reducible rfl)
                go_simp
                refine wpAnyH_take (i := 19) (v := (.bool false)) rfl (by kernel_rfl) (by kernel_rfl) (by kernel_rfl) (fun _ _ _ h => h) (Or.inl ⟨by rfl, ?hhz1419⟩) (by assumption) ?rrz1419
                case hhz1419 => (intro wz9 hSw; (try dsimp only at hSw); go_simp; try with_reducible rfl)
                go_simp
                refine wpAnyH_take (i := 20) (v := (.bool false)) rfl (by kernel_rfl) (by kernel_rfl) (by kernel_rfl) (fun _ _ _ h => h) (Or.inl ⟨by rfl, ?hhz1420⟩) (by assumption) ?rrz1420
                case hhz1420 => (intro wz9 hSw; (try dsimp only at hSw); go_simp; try with_reducible rfl)
                go_simp
                refine wpAnyH_take (i := 21) (v := (.bool false)) rfl (by kernel_rfl) (by kernel_rfl) (by kernel_rfl) (fun _ _ _ h => h) (Or.inl ⟨by rfl, ?hhz1421⟩) (by assumption) ?rrz1421
                case hhz1421 => (intro wz9 hSw; (try dsimp only at hSw); go_simp; try with_reducible rfl)
                go_simp
                refine wpAnyH_done (by kernel_rfl) ?_ _
                go_wp2
                go_roundw
                case rel => exact ⟨j + 1, by go_num, by omega, by omega, HQ, hkr.drew⟩
                case measure => simp [intOf]; omega
              · have HQ : Hid (R = false) := Lib.hid (by have := HD.out; rw [HU.out] at this; simpa [h43, hxy] using this.symm)
                have hxyb : (x == y) = false := by simpa using hxy
                have hxyn : (x != y) = true := by simpa using hxy
                clear hxy h43
                go_wp2
                refine wp_region_held_drew (S := (fun wx => wx.cell? ⟨b, off + j, none⟩ = some (.string ⟨x.toArray⟩) ∧ wx.cell? ⟨b', off' + j, none⟩ = some (.string ⟨y.toArray⟩))) (by kernel_rfl) ?_ (fun hHeld => ?_)
                · exact ⟨hc, hc'⟩
                refine wpAnyH_take (i := 0) (v := ?vvz150) rfl (by kernel_rfl) (by kernel_rfl) (by kernel_rfl) (fun _ _ _ h => h) (Or.inl ⟨by rfl, ?hhz150⟩) (by assumption) ?rrz150
                case hhz150 => (intro wz9 hSw; (try dsimp only at hSw); go_simp; try with_reducible rfl)
                go_simp
                refine wpAnyH_take (i := 1) (v := ?vvz151) rfl (by kernel_rfl) (by kernel_rfl) (by kernel_rfl) (fun _ _ _ h => h) (Or.inl ⟨by rfl, ?hhz151⟩) (by assumption) ?rrz151
                case hhz151 => (intro wz9 hSw; (try dsimp only at hSw); go_simp; try with_reducible rfl)
                go_simp
                refine wpAnyH_take (i := 2) (v := ?vvz152) rfl (by kernel_rfl) (by kernel_rfl) (by kernel_rfl) (fun _ _ _ h => h) (Or.inl ⟨by rfl, ?hhz152⟩) (by assumption) ?rrz152
                case hhz152 => (intro wz9 hSw; (try dsimp only at hSw); go_simp; try with_reducible rfl)
                go_simp
                refine wpAnyH_take (i := 3) (v := (.bool false)) rfl (by kernel_rfl) (by kernel_rfl) (by kernel_rfl) (fun _ _ _ h => h) (Or.inl ⟨by rfl, ?hhz153⟩) (by assumption) ?rrz153
                case hhz153 => (intro wz9 hSw; (try dsimp only at hSw); go_simp; try with_reducible rfl)
                go_simp
                refine wpAnyH_take (i := 4) (v := (.bool false)) rfl (by kernel_rfl) (by kernel_rfl) (by kernel_rfl) (fun _ _ _ h => h) (Or.inl ⟨by rfl, ?hhz154⟩) (by assumption) ?rrz154
                case hhz154 => (intro wz9 hSw; (try dsimp only at hSw); go_simp; try with_reducible rfl)
                go_simp
                refine wpAnyH_take (i := 5) (v := ?vvz155) rfl (by kernel_rfl) (by kernel_rfl) (by kernel_rfl) (fun _ _ _ h => h) (Or.inl ⟨by rfl, ?hhz155⟩) (by assumption) ?rrz155
                case hhz155 => (intro wz9 hSw; (try dsimp only at hSw); go_simp; try with_reducible rfl)
                go_simp
                refine wpAnyH_take (i := 6) (v := ?vvz156) rfl (by kernel_rfl) (by kernel_rfl) (by kernel_rfl) (fun _ _ _ h => h) (Or.inl ⟨by rfl, ?hhz156⟩) (by assumption) ?rrz156
                case hhz156 => (intro wz9 hSw; (try dsimp only at hSw); go_simp; try with_reducible rfl)
                go_simp
                refine wpAnyH_take (i := 7) (v := (.pointer (some ⟨b, off + j, none⟩))) rfl (by kernel_rfl) (by kernel_rfl) (by kernel_rfl) (fun _ _ _ h => h) (Or.inl ⟨by rfl, ?hhz157⟩) (by assumption) ?rrz157
                case hhz157 => (intro wz9 hSw; (try dsimp only at hSw); go_simp; try with_reducible rfl)
                go_simp
                refine wpAnyH_take (i := 8) (v := (.string ⟨x.toArray⟩)) rfl (by kernel_rfl) (by kernel_rfl) (by kernel_rfl) (fun _ _ _ h => h) (Or.inl ⟨by rfl, ?hhz158⟩) (by assumption) ?rrz158
                case hhz158 => (intro wz9 hSw; (try dsimp only at hSw); go_simp; try with_reducible rfl)
                go_simp
                refine wpAnyH_take (i := 9) (v := (.bool true)) rfl (by kernel_rfl) (by kernel_rfl) (by kernel_rfl) (fun _ _ _ h => h) (Or.inl ⟨by rfl, ?hhz159⟩) (by assumption) ?rrz159
                case hhz159 => (intro wz9 hSw; (try dsimp only at hSw); go_simp; try with_reducible rfl)
                go_simp
                refine wpAnyH_take (i := 10) (v := (.bool true)) rfl (by kernel_rfl) (by kernel_rfl) (by kernel_rfl) (fun _ _ _ h => h) (Or.inl ⟨by rfl, ?hhz1510⟩) (by assumption) ?rrz1510
                case hhz1510 => (intro wz9 hSw; (try dsimp only at hSw); go_simp; try with_reducible rfl)
                go_simp
                refine wpAnyH_take (i := 11) (v := ?vvz1511) rfl (by kernel_rfl) (by kernel_rfl) (by kernel_rfl) (fun _ _ _ h => h) (Or.inl ⟨by rfl, ?hhz1511⟩) (by assumption) ?rrz1511
                case hhz1511 => (intro wz9 hSw; (try dsimp only at hSw); go_simp; try with_reducible rfl)
                go_simp
                refine wpAnyH_take (i := 12) (v := ?vvz1512) rfl (by kernel_rfl) (by kernel_rfl) (by kernel_rfl) (fun _ _ _ h => h) (Or.inl ⟨by rfl, ?hhz1512⟩) (by assumption) ?rrz1512
                case hhz1512 => (intro wz9 hSw; (try dsimp only at hSw); go_simp; try with_reducible rfl)
                go_simp
                refine wpAnyH_take (i := 13) (v := (.pointer (some ⟨b, off + j, none⟩))) rfl (by kernel_rfl) (by kernel_rfl) (by kernel_rfl) (fun _ _ _ h => h) (Or.inl ⟨by rfl, ?hhz1513⟩) (by assumption) ?rrz1513
                case hhz1513 => (intro wz9 hSw; (try dsimp only at hSw); go_simp; try with_reducible rfl)
                go_simp
                refine wpAnyH_take (i := 14) (v := (.string ⟨x.toArray⟩)) rfl (by kernel_rfl) (by kernel_rfl) (by kernel_rfl) (fun _ _ _ h => h) (Or.inl ⟨by rfl, ?hhz1514⟩) (by assumption) ?rrz1514
                case hhz1514 => (intro wz9 hSw; (try dsimp only at hSw); go_simp; try with_reducible rfl)
                go_simp
                refine wpAnyH_take (i := 15) (v := ?vvz1515) rfl (by kernel_rfl) (by kernel_rfl) (by kernel_rfl) (fun _ _ _ h => h) (Or.inl ⟨by rfl, ?hhz1515⟩) (by assumption) ?rrz1515
                case hhz1515 => (intro wz9 hSw; (try dsimp only at hSw); go_simp; try with_reducible rfl)
                go_simp
                refine wpAnyH_take (i := 16) (v := ?vvz1516) rfl (by kernel_rfl) (by kernel_rfl) (by kernel_rfl) (fun _ _ _ h => h) (Or.inl ⟨by rfl, ?hhz1516⟩) (by assumption) ?rrz1516
                case hhz1516 => (intro wz9 hSw; (try dsimp only at hSw); go_simp; try with_reducible rfl)
                go_simp
                refine wpAnyH_take (i := 17) (v := (.pointer (some ⟨b', off' + j, none⟩))) rfl (by kernel_rfl) (by kernel_rfl) (by kernel_rfl) (fun _ _ _ h => h) (Or.inl ⟨by rfl, ?hhz1517⟩) (by assumption) ?rrz1517
                case hhz1517 => (intro wz9 hSw; (try dsimp only at hSw); go_simp; try with_reducible rfl)
                go_simp
                refine wpAnyH_take (i := 18) (v := (.string ⟨y.toArray⟩)) rfl (by kernel_rfl) (by kernel_rfl) (by kernel_rfl) (fun _ _ _ h => h) (Or.inl ⟨by rfl, ?hhz1518⟩) (by assumption) ?rrz1518
                case hhz1518 => (intro wz9 hSw; (try dsimp only at hSw); go_simp; try with_reducible rfl)
                go_simp
                refine wpAnyH_take (i := 19) (v := (.bool true)) rfl (by kernel_rfl) (by kernel_rfl) (by kernel_rfl) (fun _ _ _ h => h) (Or.inl ⟨by rfl, ?hhz1519⟩) (by assumption) ?rrz1519
                case hhz1519 => (intro wz9 hSw; (try dsimp only at hSw); go_simp; try with_reducible rfl)
                go_simp
                refine wpAnyH_take (i := 20) (v := (.bool true)) rfl (by kernel_rfl) (by kernel_rfl) (by kernel_rfl) (fun _ _ _ h => h) (Or.inl ⟨by rfl, ?hhz1520⟩) (by assumption) ?rrz1520
                case hhz1520 => (intro wz9 hSw; (try dsimp only at hSw); go_simp; try with_reducible rfl)
                go_simp
                refine wpAnyH_take (i := 21) (v := (.bool true)) rfl (by kernel_rfl) (by kernel_rfl) (by kernel_rfl) (fun _ _ _ h => h) (Or.inl ⟨by rfl, ?hhz1521⟩) (by assumption) ?rrz1521
                case hhz1521 => (intro wz9 hSw; (try dsimp only at hSw); go_simp; try with_reducible rfl)
                go_simp
                refine wpAnyH_done (by kernel_rfl) ?_ _
                go_wp2
                go_ret
                exact ⟨by rw [HQ.out]; rfl, ((((hk1.trans hk2).trans hk3).trans hk4).trans hk5).trans (hkr.drew)⟩
          · have hje : decide ((N.length : Int) ≤ (j : Int)) = true := by simp; omega
            have hjI : (N.length : Int) ≤ j := by omega
            have HQ : Hid (R = false) := Lib.hid (by rw [← HD.out, HX.out, show N.drop j = [] from List.drop_of_length_le (by omega), covers_end h35])
            go_wp2
            refine wp_region_held_drew (S := (fun wx => wx.cell? ⟨b, off + j, none⟩ = some (.string ⟨x.toArray⟩))) (by kernel_rfl) ?_ (fun hHeld => ?_)
            · exact hc
            refine wpAnyH_take (i := 0) (v := ?vvz160) rfl (by kernel_rfl) (by kernel_rfl) (by kernel_rfl) (fun _ _ _ h => h) (Or.inl ⟨by rfl, ?hhz160⟩) (by assumption) ?rrz160
            case hhz160 => (intro wz9 hSw; (try dsimp only at hSw); go_simp; try with_reducible rfl)
            go_simp
            refine wpAnyH_take (i := 1) (v := ?vvz161) rfl (by kernel_rfl) (by kernel_rfl) (by kernel_rfl) (fun _ _ _ h => h) (Or.inl ⟨by rfl, ?hhz161⟩) (by assumption) ?rrz161
            case hhz161 => (intro wz9 hSw; (try dsimp only at hSw); go_simp; try with_reducible rfl)
            go_simp
            refine wpAnyH_take (i := 2) (v := ?vvz162) rfl (by kernel_rfl) (by kernel_rfl) (by kernel_rfl) (fun _ _ _ h => h) (Or.inl ⟨by rfl, ?hhz162⟩) (by assumption) ?rrz162
            case hhz162 => (intro wz9 hSw; (try dsimp only at hSw); go_simp; try with_reducible rfl)
            go_simp
            refine wpAnyH_take (i := 3) (v := (.bool true)) rfl (by kernel_rfl) (by kernel_rfl) (by kernel_rfl) (fun _ _ _ h => h) (Or.inl ⟨by rfl, ?hhz163⟩) (by assumption) ?rrz163
            case hhz163 => (intro wz9 hSw; (try dsimp only at hSw); go_simp; try with_reducible rfl)
            go_simp
            refine wpAnyH_take (i := 4) (v := (.bool true)) rfl (by kernel_rfl) (by kernel_rfl) (by kernel_rfl) (fun _ _ _ h => h) (Or.inl ⟨by rfl, ?hhz164⟩) (by assumption) ?rrz164
            case hhz164 => (intro wz9 hSw; (try dsimp only at hSw); go_simp; try with_reducible rfl)
            go_simp
            refine wpAnyH_take (i := 5) (v := undef) rfl (by kernel_rfl) (by kernel_rfl) (by kernel_rfl) (fun _ _ _ h => h) (Or.inr ⟨by rfl, rfl⟩) (by assumption) ?_
            go_simp
            refine wpAnyH_take (i := 6) (v := undef) rfl (by kernel_rfl) (by kernel_rfl) (by kernel_rfl) (fun _ _ _ h => h) (Or.inr ⟨by rfl, rfl⟩) (by assumption) ?_
            go_simp
            refine wpAnyH_take (i := 7) (v := undef) rfl (by kernel_rfl) (by kernel_rfl) (by kernel_rfl) (fun _ _ _ h => h) (Or.inr ⟨by rfl, rfl⟩) (by assumption) ?_
            go_simp
            refine wpAnyH_take (i := 8) (v := undef) rfl (by kernel_rfl) (by kernel_rfl) (by kernel_rfl) (fun _ _ _ h => h) (Or.inr ⟨by rfl, rfl⟩) (by assumption) ?_
            go_simp
            refine wpAnyH_take (i := 9) (v := undef) rfl (by kernel_rfl) (by kernel_rfl) (by kernel_rfl) (fun _ _ _ h => h) (Or.inr ⟨by rfl, rfl⟩) (by assumption) ?_
            go_simp
            refine wpAnyH_take (i := 10) (v := undef) rfl (by kernel_rfl) (by kernel_rfl) (by kernel_rfl) (fun _ _ _ h => h) (Or.inr ⟨by rfl, rfl⟩) (by assumption) ?_
            go_simp
            refine wpAnyH_take (i := 11) (v := undef) rfl (by kernel_rfl) (by kernel_rfl) (by kernel_rfl) (fun _ _ _ h => h) (Or.inr ⟨by rfl, rfl⟩) (by assumption) ?_
            go_simp
            refine wpAnyH_take (i := 12) (v := undef) rfl (by kernel_rfl) (by kernel_rfl) (by kernel_rfl) (fun _ _ _ h => h) (Or.inr ⟨by rfl, rfl⟩) (by assumption) ?_
            go_simp
            refine wpAnyH_take (i := 13) (v := undef) rfl (by kernel_rfl) (by kernel_rfl) (by kernel_rfl) (fun _ _ _ h => h) (Or.inr ⟨by rfl, rfl⟩) (by assumption) ?_
            go_simp
            refine wpAnyH_take (i := 14) (v := undef) rfl (by kernel_rfl) (by kernel_rfl) (by kernel_rfl) (fun _ _ _ h => h) (Or.inr ⟨by rfl, rfl⟩) (by assumption) ?_
            go_simp
            refine wpAnyH_take (i := 15) (v := undef) rfl (by kernel_rfl) (by kernel_rfl) (by kernel_rfl) (fun _ _ _ h => h) (Or.inr ⟨by rfl, rfl⟩) (by assumption) ?_
            go_simp
            refine wpAnyH_take (i := 16) (v := undef) rfl (by kernel_rfl) (by kernel_rfl) (by kernel_rfl) (fun _ _ _ h => h) (Or.inr ⟨by rfl, rfl⟩) (by assumption) ?_
            go_simp
            refine wpAnyH_take (i := 17) (v := undef) rfl (by kernel_rfl) (by kernel_rfl) (by kernel_rfl) (fun _ _ _ h => h) (Or.inr ⟨by rfl, rfl⟩) (by assumption) ?_
            go_simp
            refine wpAnyH_take (i := 18) (v := undef) rfl (by kernel_rfl) (by kernel_rfl) (by kernel_rfl) (fun _ _ _ h => h) (Or.inr ⟨by rfl, rfl⟩) (by assumption) ?_
            go_simp
            refine wpAnyH_take (i := 19) (v := undef) rfl (by kernel_rfl) (by kernel_rfl) (by kernel_rfl) (fun _ _ _ h => h) (Or.inr ⟨by rfl, rfl⟩) (by assumption) ?_
            go_simp
            refine wpAnyH_take (i := 20) (v := undef) rfl (by kernel_rfl) (by kernel_rfl) (by kernel_rfl) (fun _ _ _ h => h) (Or.inr ⟨by rfl, rfl⟩) (by assumption) ?_
            go_simp
            refine wpAnyH_take (i := 21) (v := (.bool true)) rfl (by kernel_rfl) (by kernel_rfl) (by kernel_rfl) (fun _ _ _ h => h) (Or.inl ⟨by rfl, ?hhz1621⟩) (by assumption) ?rrz1621
            case hhz1621 => (intro wz9 hSw; (try dsimp only at hSw); go_simp; try with_reducible rfl)
            go_simp
            refine wpAnyH_done (by kernel_rfl) ?_ _
            go_wp2
            go_ret
            exact ⟨by rw [HQ.out]; rfl, ((((hk1.trans hk2).trans hk3).trans hk4).trans hk5).trans (hkr.drew)⟩
      · have hF0 : F.drop j = [] := List.drop_of_length_le (by omega)
        have HQ : Hid (R = decide (F.length = N.length)) := Lib.hid (by
          rw [← HD.out, hF0, coversL]
          by_cases he : F.length = N.length
          · rw [List.drop_of_length_le (by omega), decide_eq_true he]; rfl
          · rw [decide_eq_false he]
            cases hd : N.drop j with
            | nil => have := congrArg List.length hd; simp at this; omega
            | cons _ _ => rfl)
        have HB : Hid (((F.length : Int) == (N.length : Int)) = decide (F.length = N.length)) := Lib.hid (by
          by_cases he : F.length = N.length
          · rw [decide_eq_true he]; simp [he]
          · rw [decide_eq_false he]; simp; omega)
        clear hF0
        go_wp2
        go_ret
        exact ⟨by rw [HQ.out, ← HB.out]; rfl, ((((hk1.trans hk2).trans hk3).trans hk4).trans hk5).trans hkr⟩

set_option maxRecDepth 100000 in
set_option maxHeartbeats 8000000 in
theorem rmatch_any (f n : ByteArray) (w : World) (hf : f.size ≤ 9223372036854775806) (hn : n.size ≤ 9223372036854775806) :
    Calls Tryd.prog 20 #[.string f, .string n] w fun e w' => e = .returned (.bool (matchB f n)) ∧ Kept No w w' := by
  generalize hR : matchB f n = R
  unfold matchB at hR
  have cF := fun wx => rfilter_any f wx hf
  rcases hF : filterB f with _ | _
  · rw [hF] at cF hR
    have HF := Lib.hid cF
    rw [Bool.false_and] at hR
    subst hR
    clear cF hF
    go_enter Tryd.func20, Tryd.ntmps20
    go_wp2_with (go_at_call 16; refine (HF.out _).mono ?_; rintro e w1 ⟨rfl, hk1⟩)
    go_ret
    exact ⟨rfl, hk1⟩
  rw [hF] at cF hR
  rw [Bool.true_and] at hR
  have HF := Lib.hid cF
  have cN := fun wx => rname_any n wx (by omega)
  rcases hN : nameB n with _ | _
  · rw [hN] at cN hR
    have HN := Lib.hid cN
    rw [Bool.false_and] at hR
    subst hR
    clear cF cN hF hN
    go_enter Tryd.func20, Tryd.ntmps20
    go_wp2_with (first
      | (go_at_call 16; refine (HF.out _).mono ?_; rintro e w1 ⟨rfl, hk1⟩)
      | (go_at_call 14; refine (HN.out _).mono ?_; rintro e w2 ⟨rfl, hk2⟩))
    go_ret
    exact ⟨rfl, hk1.trans hk2⟩
  rw [hN] at cN hR
  rw [Bool.true_and] at hR
  have HN := Lib.hid cN
  obtain ⟨hg0, hgl, _⟩ := filter_of hF
  have hfs := filterB_size hF
  obtain ⟨hns, hn0⟩ := nameB_size hN
  have cS := fun wx => rshare_any f wx hf
  unfold rshareV at cS
  unfold ofL at *
  have hsl := fun h => share_slash hF h
  clear cF cN hN hF
  rcases hS : isShare f.data.toList with _ | _
  · rw [hS] at cS hg0 hgl hR
    rw [if_neg (by simp)] at hg0 hgl hR cS
    obtain ⟨g, hG⟩ : ∃ g, f.data.toList = g := ⟨_, rfl⟩
    rw [hG] at hg0 hgl hR
    have hGs : f.size = g.length := by rw [← hG, sz_list]
    have hg1 : 0 < f.size := by rw [hGs]; cases g with | nil => exact absurd rfl hg0 | cons _ _ => simp
    have cA := fun wx => rlevels_any f wx (by omega)
    have cB := fun wx => rlevels_any n wx (by omega)
    have hFl := lev_len f.data.toList
    have hNl := lev_len n.data.toList
    rw [sz_list] at hFl hNl
    unfold wantsL at hR
    rw [← hG, dollar_eq n hn0, wild1_eq f hg1] at hR
    by_cases hy : n[0] = 36 ∧ (f[0] = 43 ∨ f[0] = 35)
    · refine rmatch_pyes f n  _ _ R w HF HN (Lib.hid cS) (Lib.hid cA) (Lib.hid cB) hn0 hg1 (by omega) (by omega) hy.1 hy.2 (Lib.hid ?_)
      rw [← hR, decide_eq_true hy.1]
      rcases hy.2 with h | h <;> simp [h]
    · refine rmatch_pno f n  _ _ R w HF HN (Lib.hid cS) (Lib.hid cA) (Lib.hid cB) hn0 hg1 (by omega) (by omega) ?_ (Lib.hid ?_)
      · by_cases h36 : n[0] = 36
        · exact .inr ⟨fun h => hy ⟨h36, .inl h⟩, fun h => hy ⟨h36, .inr h⟩⟩
        · exact .inl h36
      · rw [← hR]
        by_cases h36 : n[0] = 36
        · have h1 : f[0] ≠ 43 := fun h => hy ⟨h36, .inl h⟩
          have h2 : f[0] ≠ 35 := fun h => hy ⟨h36, .inr h⟩
          simp [h1, h2]
        · simp [h36]
  · rw [hS] at cS hg0 hgl hR
    rw [if_pos rfl] at hg0 hgl hR cS
    rw [hsl hS, if_pos rfl] at cS
    have hG : (⟨(whatL (behind f.data.toList)).toArray⟩ : ByteArray).data.toList = whatL (behind f.data.toList) := rfl
    generalize whatL (behind f.data.toList) = g at *
    generalize hGe : (⟨g.toArray⟩ : ByteArray) = G at *
    clear hGe
    have hGs : G.size = g.length := by rw [← hG, sz_list]
    have hg1 : 0 < G.size := by rw [hGs]; cases g with | nil => exact absurd rfl hg0 | cons _ _ => simp
    have cA := fun wx => rlevels_any G wx (by omega)
    have cB := fun wx => rlevels_any n wx (by omega)
    have hFl := lev_len G.data.toList
    have hNl := lev_len n.data.toList
    rw [sz_list] at hFl hNl
    unfold wantsL at hR
    rw [← hG, dollar_eq n hn0, wild1_eq G hg1] at hR
    by_cases hy : n[0] = 36 ∧ (G[0] = 43 ∨ G[0] = 35)
    · refine rmatch_syes f n _ G _ _ R w HF HN (Lib.hid cS) (Lib.hid cA) (Lib.hid cB) hn0 hg1 (by omega) (by omega) hy.1 hy.2 (Lib.hid ?_)
      rw [← hR, decide_eq_true hy.1]
      rcases hy.2 with h | h <;> simp [h]
    · refine rmatch_sno f n _ G _ _ R w HF HN (Lib.hid cS) (Lib.hid cA) (Lib.hid cB) hn0 hg1 (by omega) (by omega) ?_ (Lib.hid ?_)
      · by_cases h36 : n[0] = 36
        · exact .inr ⟨fun h => hy ⟨h36, .inl h⟩, fun h => hy ⟨h36, .inr h⟩⟩
        · exact .inl h36
      · rw [← hR]
        by_cases h36 : n[0] = 36
        · have h1 : G[0] ≠ 43 := fun h => hy ⟨h36, .inl h⟩
          have h2 : G[0] ≠ 35 := fun h => hy ⟨h36, .inr h⟩
          simp [h1, h2]
        · simp [h36]

end Go.Proofs.YtcacpjdmlcclkaaDoor
