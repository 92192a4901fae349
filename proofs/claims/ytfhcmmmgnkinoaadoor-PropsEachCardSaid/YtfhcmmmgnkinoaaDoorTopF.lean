/-
  Contracts of package topic: Filter, Shared, covers, Match.
-/
import Derived.Test.YtfhcmmmgnkinoaaDoorTopP
namespace Go.Proofs.YtfhcmmmgnkinoaaDoor
open Go.RowKit
set_option linter.unusedVariables false
set_option linter.unusedSimpArgs false

def shareW : List UInt8 := [36, 115, 104, 97, 114, 101, 47]
def isShare (l : List UInt8) : Bool := shareW.isPrefixOf l
theorem share_len {l : List UInt8} (h : isShare l = true) : 7 ≤ l.length := by
  unfold isShare at h
  have := List.IsPrefix.length_le (List.isPrefixOf_iff_prefix.1 h)
  simpa [shareW] using this
/-- Behind the share's word. -/
def behind (l : List UInt8) : List UInt8 := l.drop 7
def shareB (l : List UInt8) : Bool := !(whoL (behind l)).isEmpty && (!wildL (whoL (behind l)) && plainL (whatL (behind l)))
def filterB (s : ByteArray) : Bool := okText s && if isShare s.data.toList then shareB s.data.toList else plainL s.data.toList
theorem who_le (r : List UInt8) : (whoL r).length ≤ r.length := by
  unfold whoL
  exact (List.takeWhile_prefix _).length_le
theorem what_le (r : List UInt8) : (whatL r).length ≤ r.length := by
  unfold whatL
  have : (r.dropWhile (· != 47)).length ≤ r.length := (List.dropWhile_suffix _).length_le
  simp
  omega

theorem halves_any (s : ByteArray) (w : World) (hs : s.size < 4294967281) (h7 : 7 ≤ s.size) :
    Calls Tryd.prog 153 #[.string s] w fun e w' => e = .returned (.tuple #[.string ⟨(whoL (behind s.data.toList)).toArray⟩, .string ⟨(whatL (behind s.data.toList)).toArray⟩]) ∧ Kept No w w' := by
  have hx : s.extract 7 s.size = ⟨(behind s.data.toList).toArray⟩ := by
    have hsz := sz_list s
    rw [Lib.extract_eq]
    unfold behind
    rw [List.take_of_length_le (by rw [List.length_drop]; omega)]
  have c := fun wx => cut_any ⟨(behind s.data.toList).toArray⟩ wx (by
    have hsz := sz_list s
    show (behind s.data.toList).toArray.size < _
    unfold behind
    rw [List.size_toArray, List.length_drop]
    omega)
  rw [show (⟨(behind s.data.toList).toArray⟩ : ByteArray).data.toList = behind s.data.toList from rfl] at c
  generalize behind s.data.toList = r at *
  have HC := Lib.hid c
  have h7z : (7 : Int) ≤ s.size := by omega
  clear c
  go_enter Tryd.func153, Tryd.ntmps153
  go_wp2_with (go_at_call 164; (first | rw [hx] | skip); refine (HC.out _).mono ?_; rintro e w1 ⟨rfl, hk⟩)
  go_ret2
  exact ⟨rfl, hk⟩

theorem size_of_list (s : ByteArray) (r : List UInt8) (h : r.length ≤ s.data.toList.length) (hs : s.size < 4294967281) : (⟨r.toArray⟩ : ByteArray).size < 4294967281 := by
  rw [sz_list] at h
  show r.toArray.size < _
  rw [List.size_toArray]
  omega
theorem behind_le (l : List UInt8) : (behind l).length ≤ l.length := by unfold behind; rw [List.length_drop]; omega

set_option maxRecDepth 100000 in
set_option maxHeartbeats 1000000 in
theorem filter_any (s : ByteArray) (w : World) (hs : s.size ≤ 9223372036854775807) (hT : Tabs w) :
    Calls Tryd.prog 144 #[.string s] w fun e w' => e = .returned (.bool (filterB s)) ∧ Kept No w w' := by
  unfold filterB
  have cO := right_any s w hs hT
  rcases hO : okText s with _ | _
  · rw [hO] at cO
    have HO := Lib.hid cO
    rw [Bool.false_and]
    clear cO hO
    go_enter Tryd.func144, Tryd.ntmps144
    go_wp2_with (go_at_call 113; refine HO.out.mono ?_; rintro e w1 ⟨rfl, hk⟩)
    go_ret
    exact ⟨rfl, hk⟩
  · rw [hO] at cO
    have HO := Lib.hid cO
    have hz := okText_size hO
    clear cO hO
    have cP := fun wx => prefix_any s ⟨#[36, 115, 104, 97, 114, 101, 47]⟩ wx
    rcases hS : isShare s.data.toList with _ | _
    · rw [show ((⟨#[36, 115, 104, 97, 114, 101, 47]⟩ : ByteArray).data.toList.isPrefixOf s.data.toList) = false from hS] at cP
      have HP := Lib.hid cP
      have HL := Lib.hid (fun wx => plain_any s wx (by omega))
      generalize hB : (true && if false = true then shareB s.data.toList else plainL s.data.toList) = B
      have HB : Hid (B = plainL s.data.toList) := Lib.hid (by rw [← hB]; simp)
      clear cP hS hB
      generalize plainL s.data.toList = C at *
      go_enter Tryd.func144, Tryd.ntmps144
      go_wp2_with (first
        | (go_at_call 113; refine HO.out.mono ?_; rintro e w1 ⟨rfl, hk⟩)
        | (go_at_call 151; refine (HP.out _).mono ?_; rintro e w2 ⟨rfl, rfl⟩)
        | (go_at_call 152; refine (HL.out _).mono ?_; rintro e w3 ⟨rfl, hk3⟩))
      go_ret
      exact ⟨by rw [HB.out]; rfl, hk.trans hk3⟩
    · rw [show ((⟨#[36, 115, 104, 97, 114, 101, 47]⟩ : ByteArray).data.toList.isPrefixOf s.data.toList) = true from hS] at cP
      have HP := Lib.hid cP
      have h7 := share_len hS
      rw [sz_list] at h7
      have HH := Lib.hid (fun wx => halves_any s wx (by omega) h7)
      have hwl : (whoL (behind s.data.toList)).length ≤ s.data.toList.length := Nat.le_trans (who_le _) (behind_le _)
      have htl : (whatL (behind s.data.toList)).length ≤ s.data.toList.length := Nat.le_trans (what_le _) (behind_le _)
      have cW := fun wx => wild_any ⟨(whoL (behind s.data.toList)).toArray⟩ wx (size_of_list s _ hwl (by omega))
      have cL := fun wx => plain_any ⟨(whatL (behind s.data.toList)).toArray⟩ wx (size_of_list s _ htl (by omega))
      rw [show (⟨(whoL (behind s.data.toList)).toArray⟩ : ByteArray).data.toList = whoL (behind s.data.toList) from rfl] at cW
      rw [show (⟨(whatL (behind s.data.toList)).toArray⟩ : ByteArray).data.toList = whatL (behind s.data.toList) from rfl] at cL
      generalize hB : (true && if true = true then shareB s.data.toList else plainL s.data.toList) = B
      have hB2 : B = (!(whoL (behind s.data.toList)).isEmpty && (!wildL (whoL (behind s.data.toList)) && plainL (whatL (behind s.data.toList)))) := by rw [← hB]; rfl
      clear cP hS hB hwl htl h7
      generalize whoL (behind s.data.toList) = u at *
      generalize whatL (behind s.data.toList) = v at *
      generalize plainL v = C at *
      have HL := Lib.hid cL
      clear cL
      cases u with
      | nil =>
        have HB : Hid (B = false) := Lib.hid (by rw [hB2]; rfl)
        clear hB2 cW
        go_enter Tryd.func144, Tryd.ntmps144
        go_wp2_with (first
          | (go_at_call 113; refine HO.out.mono ?_; rintro e w1 ⟨rfl, hk⟩)
          | (go_at_call 151; refine (HP.out _).mono ?_; rintro e w2 ⟨rfl, rfl⟩)
          | (go_at_call 153; refine (HH.out _).mono ?_; rintro e w3 ⟨rfl, hk3⟩))
        go_ret
        exact ⟨by rw [HB.out]; rfl, hk.trans hk3⟩
      | cons c t =>
        rcases hW : wildL (c :: t) with _ | _
        · have HB : Hid (B = C) := Lib.hid (by rw [hB2, hW]; simp)
          rw [hW] at cW
          have HW := Lib.hid cW
          clear hB2 cW hW
          go_enter Tryd.func144, Tryd.ntmps144
          go_wp2_with (first
            | (go_at_call 113; refine HO.out.mono ?_; rintro e w1 ⟨rfl, hk⟩)
            | (go_at_call 151; refine (HP.out _).mono ?_; rintro e w2 ⟨rfl, rfl⟩)
            | (go_at_call 153; refine (HH.out _).mono ?_; rintro e w3 ⟨rfl, hk3⟩)
            | (go_at_call 120; refine (HW.out _).mono ?_; rintro e w4 ⟨rfl, hk4⟩)
            | (go_at_call 152; refine (HL.out _).mono ?_; rintro e w5 ⟨rfl, hk5⟩))
          go_ret
          exact ⟨by rw [HB.out]; rfl, ((hk.trans hk3).trans hk4).trans hk5⟩
        · have HB : Hid (B = false) := Lib.hid (by rw [hB2, hW]; simp)
          rw [hW] at cW
          have HW := Lib.hid cW
          clear hB2 cW hW
          go_enter Tryd.func144, Tryd.ntmps144
          go_wp2_with (first
            | (go_at_call 113; refine HO.out.mono ?_; rintro e w1 ⟨rfl, hk⟩)
            | (go_at_call 151; refine (HP.out _).mono ?_; rintro e w2 ⟨rfl, rfl⟩)
            | (go_at_call 153; refine (HH.out _).mono ?_; rintro e w3 ⟨rfl, hk3⟩)
            | (go_at_call 120; refine (HW.out _).mono ?_; rintro e w4 ⟨rfl, hk4⟩))
          go_ret
          exact ⟨by rw [HB.out]; rfl, (hk.trans hk3).trans hk4⟩

/-- Is it a share that may be? -/
def sharedB (s : ByteArray) : Bool := isShare s.data.toList && filterB s
theorem filterB_size {s : ByteArray} (h : filterB s = true) : s.size ≤ 65535 := by
  unfold filterB at h
  simp at h
  exact okText_size h.1
def sharedV (s : ByteArray) : Value := if sharedB s then .tuple #[.string ⟨(whoL (behind s.data.toList)).toArray⟩, .string ⟨(whatL (behind s.data.toList)).toArray⟩, .bool true] else .tuple #[.string ⟨#[]⟩, .string ⟨#[]⟩, .bool false]
set_option maxRecDepth 100000 in
set_option maxHeartbeats 1000000 in
theorem shared_any (s : ByteArray) (w : World) (hs : s.size ≤ 9223372036854775807) (hT : Tabs w) :
    Calls Tryd.prog 154 #[.string s] w fun e w' => e = .returned (sharedV s) ∧ Kept No w w' := by
  unfold sharedV sharedB
  have cP := fun wx => prefix_any s ⟨#[36, 115, 104, 97, 114, 101, 47]⟩ wx
  rcases hS : isShare s.data.toList with _ | _
  · rw [show ((⟨#[36, 115, 104, 97, 114, 101, 47]⟩ : ByteArray).data.toList.isPrefixOf s.data.toList) = false from hS] at cP
    have HP := Lib.hid cP
    rw [Bool.false_and, if_neg (by simp)]
    clear cP hS
    go_enter Tryd.func154, Tryd.ntmps154
    go_wp2_with (go_at_call 151; refine (HP.out _).mono ?_; rintro e w2 ⟨rfl, rfl⟩)
    go_ret3
    exact ⟨rfl, Kept.refl _ _⟩
  · rw [show ((⟨#[36, 115, 104, 97, 114, 101, 47]⟩ : ByteArray).data.toList.isPrefixOf s.data.toList) = true from hS] at cP
    have HP := Lib.hid cP
    have cF := filter_any s w hs hT
    rw [Bool.true_and]
    rcases hF : filterB s with _ | _
    · rw [hF] at cF
      have HF := Lib.hid cF
      rw [if_neg (by simp)]
      clear cP hS cF hF
      go_enter Tryd.func154, Tryd.ntmps154
      go_wp2_with (first
        | (go_at_call 151; refine (HP.out _).mono ?_; rintro e w2 ⟨rfl, rfl⟩)
        | (go_at_call 144; refine HF.out.mono ?_; rintro e w1 ⟨rfl, hk⟩))
      go_ret3
      exact ⟨rfl, hk⟩
    · rw [hF] at cF
      have HF := Lib.hid cF
      have hz := filterB_size hF
      rw [if_pos rfl]
      have h7 := share_len hS
      rw [sz_list] at h7
      have HH := Lib.hid (fun wx => halves_any s wx (by omega) h7)
      have hwl : (whoL (behind s.data.toList)).length ≤ s.data.toList.length := Nat.le_trans (who_le _) (behind_le _)
      have htl : (whatL (behind s.data.toList)).length ≤ s.data.toList.length := Nat.le_trans (what_le _) (behind_le _)
      have HU := Lib.hid (fun wx => clone_any ⟨(whoL (behind s.data.toList)).toArray⟩ wx (size_of_list s _ hwl (by omega)))
      have HV := Lib.hid (fun wx => clone_any ⟨(whatL (behind s.data.toList)).toArray⟩ wx (size_of_list s _ htl (by omega)))
      clear cP hS cF hF hwl htl h7
      generalize (⟨(whoL (behind s.data.toList)).toArray⟩ : ByteArray) = u at *
      generalize (⟨(whatL (behind s.data.toList)).toArray⟩ : ByteArray) = v at *
      go_enter Tryd.func154, Tryd.ntmps154
      go_wp2_with (first
        | (go_at_call 151; refine (HP.out _).mono ?_; rintro e w2 ⟨rfl, rfl⟩)
        | (go_at_call 144; refine HF.out.mono ?_; rintro e w1 ⟨rfl, hk⟩)
        | (go_at_call 153; refine (HH.out _).mono ?_; rintro e w3 ⟨rfl, hk3⟩)
        | (go_at_call 165; with_reducible refine (HU.out _).mono ?_; rintro e w4 ⟨rfl, hk4⟩)
        | (go_at_call 165; refine (HV.out _).mono ?_; rintro e w5 ⟨rfl, hk5⟩))
      go_ret3
      exact ⟨rfl, ((hk.trans hk3).trans hk4).trans hk5⟩

/-- Does a filter's levels want a name's? -/
def coversL : List (List UInt8) → List (List UInt8) → Bool
  | [], ns => ns.isEmpty
  | f :: fs, ns => if f = [35] then true else match ns with
    | [] => false
    | n :: t => (decide (f = [43]) || decide (f = n)) && coversL fs t

end Go.Proofs.YtfhcmmmgnkinoaaDoor
