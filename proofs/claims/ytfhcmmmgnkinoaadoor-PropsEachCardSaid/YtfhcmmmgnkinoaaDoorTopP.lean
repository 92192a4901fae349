/-
  Contracts of package topic: Name, halves, plain.
-/
import Derived.Test.YtfhcmmmgnkinoaaDoorTopL
namespace Go.Proofs.YtfhcmmmgnkinoaaDoor
open Go.RowKit
set_option linter.unusedVariables false
set_option linter.unusedSimpArgs false

theorem cut_any (s : ByteArray) (w : World) (hs : s.size < 4294967281) :
    Calls Tryd.prog 164 #[.string s, .string ⟨#[47]⟩] w fun e w' => e = .returned (.tuple #[.string ⟨(whoL s.data.toList).toArray⟩, .string ⟨(whatL s.data.toList).toArray⟩, .bool (s.data.toList.contains 47)]) ∧ Kept No w w' := by
  have c := Lib.hid (cutlite_any s w hs)
  generalize whoL s.data.toList = a at *
  generalize whatL s.data.toList = b at *
  generalize s.data.toList.contains 47 = B at *
  go_enter Tryd.func164, Tryd.ntmps164
  go_wp2_with (go_at_call 170; refine c.out.mono ?_; rintro e w' ⟨rfl, hk⟩)
  go_ret3
  exact ⟨rfl, hk⟩
theorem prefix_any (s p : ByteArray) (w : World) : Calls Tryd.prog 151 #[.string s, .string p] w fun e w' => e = .returned (.bool (p.data.toList.isPrefixOf s.data.toList)) ∧ w = w' :=
  (Tryd.strings_HasPrefix s p w).mono fun e w' ⟨h1, h2⟩ => ⟨h1, h2.symm⟩
theorem clone_any (s : ByteArray) (w : World) (hs : s.size < 4294967281) : Calls Tryd.prog 165 #[.string s] w fun e w' => e = .returned (.string s) ∧ Kept No w w' := by
  have c := Lib.hid (Tryd.stringslite_Clone s w (by omega))
  go_enter Tryd.func165, Tryd.ntmps165
  go_wp2_with (go_at_call 171; refine c.out.mono ?_; rintro e w' ⟨rfl, hb⟩)
  go_ret
  exact ⟨rfl, .of_below hb⟩

/-- May a message be named so? -/
def nameB (s : ByteArray) : Bool := okText s && (decide (0 < s.size) && !wildL s.data.toList)
theorem okText_size {s : ByteArray} (h : okText s = true) : s.size ≤ 65535 := by
  unfold okText at h
  simp at h
  exact h.1
theorem empty_of {s : ByteArray} (h : s.size = 0) : s = ⟨#[]⟩ := ByteArray.ext (Array.eq_empty_of_size_eq_zero h)
theorem isEmpty_of {s : ByteArray} (h : 0 < s.size) : s.toList.isEmpty = false := by
  rw [Lib.toList_data]
  have : s.data.toList.length = s.size := sz_list s
  cases hl : s.data.toList with
  | nil => rw [hl] at this; simp at this; omega
  | cons _ _ => rfl
set_option maxHeartbeats 1000000 in
theorem name_any (s : ByteArray) (w : World) (hs : s.size ≤ 9223372036854775807) (hT : Tabs w) :
    Calls Tryd.prog 100 #[.string s] w fun e w' => e = .returned (.bool (nameB s)) ∧ Kept No w w' := by
  unfold nameB
  by_cases h0 : s.size = 0
  · obtain rfl := empty_of h0
    go_enter Tryd.func100, Tryd.ntmps100
    go_wp2
    go_ret
    exact ⟨by simp [ByteArray.size], Kept.refl _ _⟩
  · have hE := isEmpty_of (s := s) (by omega)
    have hd : decide (0 < s.size) = true := by simp; omega
    rw [hd]
    have cO := right_any s w hs hT
    rcases hO : okText s with _ | _
    · rw [hO] at cO
      have HO := Lib.hid cO
      clear cO hO
      go_enter Tryd.func100, Tryd.ntmps100
      go_wp2_with (go_at_call 113; refine HO.out.mono ?_; rintro e w1 ⟨rfl, hk⟩)
      go_ret
      exact ⟨rfl, hk⟩
    · rw [hO] at cO
      have HO := Lib.hid cO
      have cW := Lib.hid (fun wx => wild_any s wx (by have := okText_size hO; omega))
      clear cO hO
      generalize wildL s.data.toList = B at *
      go_enter Tryd.func100, Tryd.ntmps100
      go_wp2_with (first
        | (go_at_call 113; refine HO.out.mono ?_; rintro e w1 ⟨rfl, hk⟩)
        | (go_at_call 120; refine (cW.out _).mono ?_; rintro e w2 ⟨rfl, hk2⟩))
      go_ret
      exact ⟨by simp, hk.trans hk2⟩

/-- May a plain filter's levels be so? -/
def okLev : List (List UInt8) → Bool
  | [] => true
  | x :: r => (!wildL x || (x == [43] || (x == [35] && r.isEmpty))) && okLev r
def plainL (l : List UInt8) : Bool := !l.isEmpty && okLev (lev l)

set_option maxRecDepth 100000 in
set_option maxHeartbeats 1000000 in
theorem plain_any (s : ByteArray) (w : World) (hs : s.size < 4294967281) :
    Calls Tryd.prog 152 #[.string s] w fun e w' => e = .returned (.bool (plainL s.data.toList)) ∧ Kept No w w' := by
  unfold plainL
  by_cases h0 : s.size = 0
  · obtain rfl := empty_of h0
    go_enter Tryd.func152, Tryd.ntmps152
    go_wp2
    go_ret
    exact ⟨rfl, Kept.refl _ _⟩
  · have hE := isEmpty_of (s := s) (by omega)
    have hE2 : s.data.toList.isEmpty = false := by rw [← Lib.toList_data]; exact hE
    rw [hE2]
    have cS := split_any s w hs
    have hll := lev_len s.data.toList
    have hlm := lev_mem s.data.toList
    have hsz := sz_list s
    rw [hsz] at hll hlm
    generalize lev s.data.toList = L at *
    have HS := Lib.hid cS
    have HM := Lib.hid hlm
    generalize hC : okLev L = C
    have HC := Lib.hid hC
    clear cS hlm hC hsz hE2
    go_enter Tryd.func152, Tryd.ntmps152
    go_wp2_with (go_at_call 163; refine HS.out.mono ?_; rintro e w1 ⟨a, rfl, hr, hk⟩)
    go_loopw [12] (fun i wr => ∃ j : Nat, i = .int .i64 j ∧ j ≤ L.length ∧ Hid (okLev (L.drop j) = C) ∧ Kept No w1 wr) (fun i _ => L.length - (intOf i).toNat)
    case atStart => exact ⟨0, rfl, by omega, Lib.hid (by rw [List.drop_zero]; exact HC.out), Kept.refl _ _⟩
    case round =>
      obtain ⟨j, rfl, hj, HD, hk1⟩ := hrel
      by_cases hlt : j < L.length
      · have hdr : L.drop j = L[j] :: L.drop (j + 1) := List.drop_eq_getElem_cons hlt
        obtain ⟨b, off, rfl, hb, hc⟩ := (hr.keptNo hk1).at_ (k := j) (by simpa [strsL] using hlt)
        have hx : (strsL L)[j]'(by simpa [strsL] using hlt) = .string ⟨L[j].toArray⟩ := by simp [strsL]
        rw [hx] at hc
        have hxl : L[j].length ≤ s.size := HM.out _ (List.getElem_mem hlt)
        have HX := Lib.hid hdr
        clear hx hdr
        generalize L[j] = x at *
        have cW := fun wx => wild_any ⟨x.toArray⟩ wx (by show x.toArray.size < _; simp; omega)
        rw [show (⟨x.toArray⟩ : ByteArray).data.toList = x from rfl] at cW
        rcases hW : wildL x with _ | _
        · rw [hW] at cW
          have HW := Lib.hid cW
          have HN : Hid (okLev (L.drop (j + 1)) = C) := Lib.hid (by have := HD.out; rw [HX.out, okLev, hW] at this; simpa using this)
          clear cW hW
          go_wp2_with (go_at_call 120; refine (HW.out _).mono ?_; rintro e w2 ⟨rfl, hk2⟩)
          go_roundw
          case rel => exact ⟨j + 1, by go_num, by omega, HN, hk1.trans hk2⟩
          case measure => simp [intOf]; omega
        · rw [hW] at cW
          have HW := Lib.hid cW
          have HWW := Lib.hid hW
          clear cW hW
          go_wp2_with (go_at_call 120; refine (HW.out _).mono ?_; rintro e w2 ⟨rfl, hk2⟩)
          · have h1 : (x == [43]) = true := by assumption
            have HN : Hid (okLev (L.drop (j + 1)) = C) := Lib.hid (by have := HD.out; rw [HX.out, okLev, h1] at this; simpa using this)
            go_roundw
            case rel => exact ⟨j + 1, by go_num, by omega, HN, hk1.trans hk2⟩
            case measure => simp [intOf]; omega
          · have h1 : (x == [43]) = false := by assumption
            have h2 : x = [35] := by assumption
            have h3 : ((j : Int) != (L.length : Int) - 1) = true := by assumption
            have h4 : (L.drop (j + 1)).isEmpty = false := by
              have h5 : (j : Int) ≠ (L.length : Int) - 1 := by simpa using h3
              cases hd : L.drop (j + 1) with
              | nil => have := congrArg List.length hd; simp at this; omega
              | cons _ _ => rfl
            have HN : Hid (C = false) := Lib.hid (by have := HD.out; rw [HX.out, okLev, h1, h4, HWW.out] at this; simpa using this.symm)
            clear h1 h2 h3 h4
            go_ret
            exact ⟨by rw [HN.out]; rfl, hk.trans (hk1.trans hk2)⟩
          · have h1 : (x == [43]) = false := by assumption
            have h2 : x = [35] := by assumption
            have h3 : ((j : Int) != (L.length : Int) - 1) = false := by assumption
            have h4 : (L.drop (j + 1)).isEmpty = true := by
              have h5 : (j : Int) = (L.length : Int) - 1 := by simpa using h3
              rw [List.drop_of_length_le (by omega)]
              rfl
            have HN : Hid (okLev (L.drop (j + 1)) = C) := Lib.hid (by have := HD.out; rw [HX.out, okLev, h1, h4, h2] at this; simpa using this)
            clear h1 h2 h3 h4
            go_roundw
            case rel => exact ⟨j + 1, by go_num, by omega, HN, hk1.trans hk2⟩
            case measure => simp [intOf]; omega
          · have h1 : (x == [43]) = false := by assumption
            have h2 : ¬ x = [35] := by assumption
            have h3 : (x == [35]) = false := by simpa using h2
            have HN : Hid (C = false) := Lib.hid (by have := HD.out; rw [HX.out, okLev, h1, h3, HWW.out] at this; simpa using this.symm)
            clear h1 h2 h3
            go_ret
            exact ⟨by rw [HN.out]; rfl, hk.trans (hk1.trans hk2)⟩
      · have HN : Hid (C = true) := Lib.hid (by rw [← HD.out, List.drop_of_length_le (by omega)]; rfl)
        go_wp2
        go_ret
        exact ⟨by rw [HN.out]; rfl, hk.trans hk1⟩

end Go.Proofs.YtfhcmmmgnkinoaaDoor
