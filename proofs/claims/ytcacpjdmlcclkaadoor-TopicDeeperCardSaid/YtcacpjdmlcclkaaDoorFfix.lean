/-
  The document's FixFilter (pouchref04): made by mkff.py.
-/
import Derived.Test.YtcacpjdmlcclkaaDoorSelF
import Derived.Laws.IdiomStrings
import Derived.Lib.BufferRead
namespace Go.Proofs.YtcacpjdmlcclkaaDoor
open Go.RowKit
set_option linter.unusedVariables false
set_option linter.unusedSimpArgs false

def fsg : Nat → List UInt8
  | 0 => [97]
  | 1 => [43]
  | 2 => [98]
  | 3 => []
  | 4 => [99]
  | 5 => [97]
  | 6 => [43]
  | _ => [98]
/-- The levels that are put together. -/
def fM (l : List UInt8) : List (List UInt8) := [116] :: (l.take 6).map fun c => fsg (c.toNat % 8)
def atLeast (l : List UInt8) (i m : Nat) : Bool := match l[i]? with | some c => decide (m ≤ c.toNat) | none => false
def ff1 (l : List UInt8) : List UInt8 := if atLeast l 0 200 then joinL (fM l) ++ [47, 35] else joinL (fM l)
def ff2 (l : List UInt8) : List UInt8 := if atLeast l 1 200 then [36, 115, 104, 97, 114, 101, 47, 103, 47] ++ ff1 l else ff1 l
def ffL (l : List UInt8) : List UInt8 := if atLeast l 2 220 then [35] else ff2 l
def ffS (s : ByteArray) : ByteArray := ⟨(ffL s.data.toList).toArray⟩
def ffB (s : ByteArray) (k : Nat) : ByteArray := ⟨(joinL ([116] :: (s.data.toList.take k).map fun c => fsg (c.toNat % 8))).toArray⟩
def fsgB (k : Nat) : ByteArray := ⟨(fsg k).toArray⟩
theorem fsg_len (k : Nat) : (fsg k).length ≤ 1 := by unfold fsg; split <;> simp
theorem ext_list2 {a b : ByteArray} (h : a.data.toList = b.data.toList) : a = b := ByteArray.ext (Array.ext' h)
theorem ffB_succ (s : ByteArray) (k : Nat) (h : k < s.size) : ffB s k ++ ⟨#[47]⟩ ++ fsgB (s[k].toNat % 8) = ffB s (k + 1) := by
  have h1 : s.data.toList.take (k + 1) = s.data.toList.take k ++ [s[k]] := by
    rw [List.take_succ_eq_append_getElem (by rw [sz_list]; exact h)]; rfl
  apply ext_list2
  rw [ba_app, ba_app]
  show joinL ([116] :: (s.data.toList.take k).map fun c => fsg (c.toNat % 8)) ++ [47] ++ fsg (s[k].toNat % 8) = joinL ([116] :: (s.data.toList.take (k + 1)).map fun c => fsg (c.toNat % 8))
  rw [h1, List.map_append, ← List.cons_append, List.map_cons, List.map_nil, join_snoc _ _ (by simp), List.append_assoc]
  rfl
theorem ffB_end (s : ByteArray) (k : Nat) (h : k = 6 ∨ k = s.size) (h6 : k ≤ 6) : ffB s k = ⟨(joinL (fM s.data.toList)).toArray⟩ := by
  unfold ffB fM
  rcases h with rfl | rfl
  · rfl
  · have h1 : s.data.toList.take s.size = s.data.toList.take 6 := by rw [List.take_of_length_le (by rw [sz_list]; omega), List.take_of_length_le (by rw [sz_list]; omega)]
    rw [h1]
theorem fM_in (l : List UInt8) (k : Nat) : ∀ x ∈ ([116] :: (l.take k).map fun c => fsg (c.toNat % 8) : List (List UInt8)), x = [116] ∨ ∃ j, x = fsg j := by
  intro x hx
  rcases List.mem_cons.1 hx with rfl | hx
  · exact .inl rfl
  · obtain ⟨c, _, hc⟩ := List.mem_map.1 hx
    exact .inr ⟨_, hc.symm⟩
theorem ffB_len (s : ByteArray) (k : Nat) (hk : k ≤ 6) : (ffB s k).size ≤ 14 := by
  have h1 := join_len ([116] :: (s.data.toList.take k).map fun c => fsg (c.toNat % 8)) 1 (fun x hx => by
    rcases fM_in _ k x hx with rfl | ⟨j, rfl⟩
    · simp
    · exact fsg_len j)
  have h2 : (s.data.toList.take k).length ≤ k := List.length_take_le _ _
  show (joinL ([116] :: (s.data.toList.take k).map fun c => fsg (c.toNat % 8))).toArray.size ≤ 14
  rw [List.size_toArray]
  simp only [List.length_cons, List.length_map] at h1
  omega
theorem fsgB_len (k : Nat) : (fsgB k).size ≤ 1 := by
  have := fsg_len k
  show (fsg k).toArray.size ≤ 1
  simp only [List.size_toArray]; omega
theorem at_yes {s : ByteArray} {i m : Nat} (h : i < s.size) (h2 : m ≤ s[i].toNat) : atLeast s.data.toList i m = true := by
  unfold atLeast
  rw [Lib.data_getElem? s i h]
  simpa using h2
theorem at_no {s : ByteArray} {i m : Nat} (h : i < s.size) (h2 : s[i].toNat < m) : atLeast s.data.toList i m = false := by
  unfold atLeast
  rw [Lib.data_getElem? s i h]
  simp
  omega
theorem at_out {s : ByteArray} {i m : Nat} (h : s.size ≤ i) : atLeast s.data.toList i m = false := by
  unfold atLeast
  rw [List.getElem?_eq_none (by rw [sz_list]; exact h)]

set_option maxRecDepth 100000 in
set_option maxHeartbeats 8000000 in
theorem ffix_any (s : ByteArray) (w : World) (hs : s.size ≤ 9223372036854775807) :
    Calls Tryd.prog 23 #[.string s] w fun e w' => e = .returned (.string (ffS s)) ∧ Kept No w w' := by
  go_enter Tryd.func23, Tryd.ntmps23
  go_wp2
  have hk1 : Kept No w (w.alloc (.cells #[.string ⟨#[97]⟩, .string ⟨#[43]⟩, .string ⟨#[98]⟩, .string ⟨#[]⟩, .string ⟨#[99]⟩, .string ⟨#[97]⟩, .string ⟨#[43]⟩, .string ⟨#[98]⟩] 9)) := (Kept.refl No w).alloc _
  have hcl : ∀ j, j < 8 → (w.alloc (.cells #[.string ⟨#[97]⟩, .string ⟨#[43]⟩, .string ⟨#[98]⟩, .string ⟨#[]⟩, .string ⟨#[99]⟩, .string ⟨#[97]⟩, .string ⟨#[43]⟩, .string ⟨#[98]⟩] 9)).cell? ⟨w.heap.size, j, none⟩ = some (.string (fsgB j)) := by
    intro j hj
    rw [(Blk.new w _ _).cell]
    rcases (show j = 0 ∨ j = 1 ∨ j = 2 ∨ j = 3 ∨ j = 4 ∨ j = 5 ∨ j = 6 ∨ j = 7 from by omega) with rfl | rfl | rfl | rfl | rfl | rfl | rfl | rfl <;> rfl
  have HCL := Lib.hid hcl
  clear hcl
  go_loop [4, 5] (fun o i => ∃ k : Nat, i = .int .i64 k ∧ k ≤ s.size ∧ k ≤ 6 ∧ o = .string (ffB s k)) (fun _ i => 6 - (intOf i).toNat)
  case atStart => exact ⟨0, rfl, by omega, by omega, rfl⟩
  case round =>
    obtain ⟨k, rfl, hks, hk8, rfl⟩ := hrel
    have hlen := ffB_len s k hk8
    by_cases hlt : k < s.size ∧ k < 6
    · obtain ⟨hl1, hl2⟩ := hlt
      have hl1I : (k : Int) < s.size := by omega
      have hl2I : (k : Int) < 6 := by omega
      have hc := HCL.out (s[k].toNat % 8) (by omega)
      have hb := byte_lt s[k]
      have hN : ((s[k].toNat : Int) % 8).toNat = s[k].toNat % 8 := by omega
      have hB0 : (0 : Int) ≤ (s[k].toNat : Int) % 8 := by omega
      have hB1 : (s[k].toNat : Int) % 8 < 8 := by omega
      have hlen2 := fsgB_len (s[k].toNat % 8)
      have HS := Lib.hid (ffB_succ s k hl1)
      go_wp2
      go_round
      case rel => exact ⟨k + 1, by go_num, by omega, by omega, by rw [HS.out]⟩
      case measure => simp [intOf]; omega
    · have hend : k = 6 ∨ k = s.size := by omega
      have HE := Lib.hid (ffB_end s k hend hk8)
      have hff : ffL s.data.toList = if atLeast s.data.toList 2 220 then [35] else (if atLeast s.data.toList 1 200 then [36, 115, 104, 97, 114, 101, 47, 103, 47] ++ (if atLeast s.data.toList 0 200 then joinL (fM s.data.toList) ++ [47, 35] else joinL (fM s.data.toList)) else (if atLeast s.data.toList 0 200 then joinL (fM s.data.toList) ++ [47, 35] else joinL (fM s.data.toList))) := rfl
      have HFF := Lib.hid hff
      have HFB : Hid ((ffB s k).data.toList = joinL (fM s.data.toList)) := Lib.hid (by rw [HE.out])
      generalize ffB s k = B at *
      clear hend hff HE
      have hexit : (((k : Int) < s.size ∧ k < s.size) ∧ decide ((k : Int) < 6) = false) ∨ (decide ((k : Int) < s.size) = false ∧ decide (k < s.size) = false) := by
        by_cases h : k < s.size
        · exact .inl ⟨⟨by omega, h⟩, decide_eq_false (by omega)⟩
        · exact .inr ⟨decide_eq_false (by omega), decide_eq_false h⟩
      have hexitN : ¬ k < s.size ∨ ¬ k < 6 := by omega
      clear hlt
      rcases (show s.size = 0 ∨ s.size = 1 ∨ s.size = 2 ∨ 3 ≤ s.size from by omega) with hz | hz | hz | hz
      · have hs0 : decide ((0 : Int) < s.size) = false := by exact decide_eq_false (by omega)
        have hs1 : decide ((1 : Int) < s.size) = false := by exact decide_eq_false (by omega)
        have hs2 : decide ((2 : Int) < s.size) = false := by exact decide_eq_false (by omega)
        have HV : Hid (ffS s = B) := Lib.hid (ext_list2 (by
          show ffL s.data.toList = _
          rw [HFF.out, at_out (i := 2) (by omega), at_out (i := 1) (by omega), at_out (i := 0) (by omega)]
          try simp only [ba_app, HFB.out, if_true, Bool.false_eq_true, if_false]))
        rcases hexit with ⟨⟨hx1, hx3⟩, hx2⟩ | ⟨hx1, hx2⟩
        all_goals go_wp2
        all_goals
          go_ret
          exact ⟨by rw [HV.out]; rfl, hk1⟩
      · have hs0 : (0 : Int) < s.size := by omega
        have hs1 : decide ((1 : Int) < s.size) = false := by exact decide_eq_false (by omega)
        have hs2 : decide ((2 : Int) < s.size) = false := by exact decide_eq_false (by omega)
        have hsn0 : 0 < s.size := by omega
        by_cases hc0 : 200 ≤ s[0].toNat
        · have hi0 : (200 : Int) ≤ s[0].toNat := by omega
          have HV : Hid (ffS s = (B ++ ⟨#[47, 35]⟩)) := Lib.hid (ext_list2 (by
            show ffL s.data.toList = _
            rw [HFF.out, at_out (i := 2) (by omega), at_out (i := 1) (by omega), at_yes (by omega) hc0]
            try simp only [ba_app, HFB.out, if_true, Bool.false_eq_true, if_false]))
          rcases hexit with ⟨⟨hx1, hx3⟩, hx2⟩ | ⟨hx1, hx2⟩
          all_goals go_wp2
          all_goals
            go_ret
            exact ⟨by rw [HV.out]; rfl, hk1⟩
        · have hi0 : decide ((200 : Int) ≤ s[0].toNat) = false := by simp; omega
          have hin0 : decide (200 ≤ s[0].toNat) = false := by simp; omega
          have HV : Hid (ffS s = B) := Lib.hid (ext_list2 (by
            show ffL s.data.toList = _
            rw [HFF.out, at_out (i := 2) (by omega), at_out (i := 1) (by omega), at_no (by omega) (Nat.lt_of_not_le hc0)]
            try simp only [ba_app, HFB.out, if_true, Bool.false_eq_true, if_false]))
          rcases hexit with ⟨⟨hx1, hx3⟩, hx2⟩ | ⟨hx1, hx2⟩
          all_goals go_wp2
          all_goals
            go_ret
            exact ⟨by rw [HV.out]; rfl, hk1⟩
      · have hs0 : (0 : Int) < s.size := by omega
        have hs1 : (1 : Int) < s.size := by omega
        have hs2 : decide ((2 : Int) < s.size) = false := by exact decide_eq_false (by omega)
        have hsn0 : 0 < s.size := by omega
        have hsn1 : 1 < s.size := by omega
        by_cases hc0 : 200 ≤ s[0].toNat
        · have hi0 : (200 : Int) ≤ s[0].toNat := by omega
          by_cases hc1 : 200 ≤ s[1].toNat
          · have hi1 : (200 : Int) ≤ s[1].toNat := by omega
            have HV : Hid (ffS s = (⟨#[36, 115, 104, 97, 114, 101, 47, 103, 47]⟩ ++ (B ++ ⟨#[47, 35]⟩))) := Lib.hid (ext_list2 (by
              show ffL s.data.toList = _
              rw [HFF.out, at_out (i := 2) (by omega), at_yes (by omega) hc1, at_yes (by omega) hc0]
              try simp only [ba_app, HFB.out, if_true, Bool.false_eq_true, if_false]))
            rcases hexit with ⟨⟨hx1, hx3⟩, hx2⟩ | ⟨hx1, hx2⟩
            all_goals go_wp2
            all_goals
              go_ret
              exact ⟨by rw [HV.out]; rfl, hk1⟩
          · have hi1 : decide ((200 : Int) ≤ s[1].toNat) = false := by simp; omega
            have hin1 : decide (200 ≤ s[1].toNat) = false := by simp; omega
            have HV : Hid (ffS s = (B ++ ⟨#[47, 35]⟩)) := Lib.hid (ext_list2 (by
              show ffL s.data.toList = _
              rw [HFF.out, at_out (i := 2) (by omega), at_no (by omega) (Nat.lt_of_not_le hc1), at_yes (by omega) hc0]
              try simp only [ba_app, HFB.out, if_true, Bool.false_eq_true, if_false]))
            rcases hexit with ⟨⟨hx1, hx3⟩, hx2⟩ | ⟨hx1, hx2⟩
            all_goals go_wp2
            all_goals
              go_ret
              exact ⟨by rw [HV.out]; rfl, hk1⟩
        · have hi0 : decide ((200 : Int) ≤ s[0].toNat) = false := by simp; omega
          have hin0 : decide (200 ≤ s[0].toNat) = false := by simp; omega
          by_cases hc1 : 200 ≤ s[1].toNat
          · have hi1 : (200 : Int) ≤ s[1].toNat := by omega
            have HV : Hid (ffS s = (⟨#[36, 115, 104, 97, 114, 101, 47, 103, 47]⟩ ++ B)) := Lib.hid (ext_list2 (by
              show ffL s.data.toList = _
              rw [HFF.out, at_out (i := 2) (by omega), at_yes (by omega) hc1, at_no (by omega) (Nat.lt_of_not_le hc0)]
              try simp only [ba_app, HFB.out, if_true, Bool.false_eq_true, if_false]))
            rcases hexit with ⟨⟨hx1, hx3⟩, hx2⟩ | ⟨hx1, hx2⟩
            all_goals go_wp2
            all_goals
              go_ret
              exact ⟨by rw [HV.out]; rfl, hk1⟩
          · have hi1 : decide ((200 : Int) ≤ s[1].toNat) = false := by simp; omega
            have hin1 : decide (200 ≤ s[1].toNat) = false := by simp; omega
            have HV : Hid (ffS s = B) := Lib.hid (ext_list2 (by
              show ffL s.data.toList = _
              rw [HFF.out, at_out (i := 2) (by omega), at_no (by omega) (Nat.lt_of_not_le hc1), at_no (by omega) (Nat.lt_of_not_le hc0)]
              try simp only [ba_app, HFB.out, if_true, Bool.false_eq_true, if_false]))
            rcases hexit with ⟨⟨hx1, hx3⟩, hx2⟩ | ⟨hx1, hx2⟩
            all_goals go_wp2
            all_goals
              go_ret
              exact ⟨by rw [HV.out]; rfl, hk1⟩
      · have hs0 : (0 : Int) < s.size := by omega
        have hs1 : (1 : Int) < s.size := by omega
        have hs2 : (2 : Int) < s.size := by omega
        have hsn0 : 0 < s.size := by omega
        have hsn1 : 1 < s.size := by omega
        have hsn2 : 2 < s.size := by omega
        by_cases hc0 : 200 ≤ s[0].toNat
        · have hi0 : (200 : Int) ≤ s[0].toNat := by omega
          by_cases hc1 : 200 ≤ s[1].toNat
          · have hi1 : (200 : Int) ≤ s[1].toNat := by omega
            by_cases hc2 : 220 ≤ s[2].toNat
            · have hi2 : (220 : Int) ≤ s[2].toNat := by omega
              have HV : Hid (ffS s = ⟨#[35]⟩) := Lib.hid (ext_list2 (by
                show ffL s.data.toList = _
                rw [HFF.out, at_yes (by omega) hc2, at_yes (by omega) hc1, at_yes (by omega) hc0]
                try rfl))
              rcases hexit with ⟨⟨hx1, hx3⟩, hx2⟩ | ⟨hx1, hx2⟩
              all_goals go_wp2
              all_goals
                go_ret
                exact ⟨by rw [HV.out]; rfl, hk1⟩
            · have hi2 : decide ((220 : Int) ≤ s[2].toNat) = false := by simp; omega
              have hin2 : decide (220 ≤ s[2].toNat) = false := by simp; omega
              have HV : Hid (ffS s = (⟨#[36, 115, 104, 97, 114, 101, 47, 103, 47]⟩ ++ (B ++ ⟨#[47, 35]⟩))) := Lib.hid (ext_list2 (by
                show ffL s.data.toList = _
                rw [HFF.out, at_no (by omega) (Nat.lt_of_not_le hc2), at_yes (by omega) hc1, at_yes (by omega) hc0]
                try simp only [ba_app, HFB.out, if_true, Bool.false_eq_true, if_false]))
              rcases hexit with ⟨⟨hx1, hx3⟩, hx2⟩ | ⟨hx1, hx2⟩
              all_goals go_wp2
              all_goals
                go_ret
                exact ⟨by rw [HV.out]; rfl, hk1⟩
          · have hi1 : decide ((200 : Int) ≤ s[1].toNat) = false := by simp; omega
            have hin1 : decide (200 ≤ s[1].toNat) = false := by simp; omega
            by_cases hc2 : 220 ≤ s[2].toNat
            · have hi2 : (220 : Int) ≤ s[2].toNat := by omega
              have HV : Hid (ffS s = ⟨#[35]⟩) := Lib.hid (ext_list2 (by
                show ffL s.data.toList = _
                rw [HFF.out, at_yes (by omega) hc2, at_no (by omega) (Nat.lt_of_not_le hc1), at_yes (by omega) hc0]
                try rfl))
              rcases hexit with ⟨⟨hx1, hx3⟩, hx2⟩ | ⟨hx1, hx2⟩
              all_goals go_wp2
              all_goals
                go_ret
                exact ⟨by rw [HV.out]; rfl, hk1⟩
            · have hi2 : decide ((220 : Int) ≤ s[2].toNat) = false := by simp; omega
              have hin2 : decide (220 ≤ s[2].toNat) = false := by simp; omega
              have HV : Hid (ffS s = (B ++ ⟨#[47, 35]⟩)) := Lib.hid (ext_list2 (by
                show ffL s.data.toList = _
                rw [HFF.out, at_no (by omega) (Nat.lt_of_not_le hc2), at_no (by omega) (Nat.lt_of_not_le hc1), at_yes (by omega) hc0]
                try simp only [ba_app, HFB.out, if_true, Bool.false_eq_true, if_false]))
              rcases hexit with ⟨⟨hx1, hx3⟩, hx2⟩ | ⟨hx1, hx2⟩
              all_goals go_wp2
              all_goals
                go_ret
                exact ⟨by rw [HV.out]; rfl, hk1⟩
        · have hi0 : decide ((200 : Int) ≤ s[0].toNat) = false := by simp; omega
          have hin0 : decide (200 ≤ s[0].toNat) = false := by simp; omega
          by_cases hc1 : 200 ≤ s[1].toNat
          · have hi1 : (200 : Int) ≤ s[1].toNat := by omega
            by_cases hc2 : 220 ≤ s[2].toNat
            · have hi2 : (220 : Int) ≤ s[2].toNat := by omega
              have HV : Hid (ffS s = ⟨#[35]⟩) := Lib.hid (ext_list2 (by
                show ffL s.data.toList = _
                rw [HFF.out, at_yes (by omega) hc2, at_yes (by omega) hc1, at_no (by omega) (Nat.lt_of_not_le hc0)]
                try rfl))
              rcases hexit with ⟨⟨hx1, hx3⟩, hx2⟩ | ⟨hx1, hx2⟩
              all_goals go_wp2
              all_goals
                go_ret
                exact ⟨by rw [HV.out]; rfl, hk1⟩
            · have hi2 : decide ((220 : Int) ≤ s[2].toNat) = false := by simp; omega
              have hin2 : decide (220 ≤ s[2].toNat) = false := by simp; omega
              have HV : Hid (ffS s = (⟨#[36, 115, 104, 97, 114, 101, 47, 103, 47]⟩ ++ B)) := Lib.hid (ext_list2 (by
                show ffL s.data.toList = _
                rw [HFF.out, at_no (by omega) (Nat.lt_of_not_le hc2), at_yes (by omega) hc1, at_no (by omega) (Nat.lt_of_not_le hc0)]
                try simp only [ba_app, HFB.out, if_true, Bool.false_eq_true, if_false]))
              rcases hexit with ⟨⟨hx1, hx3⟩, hx2⟩ | ⟨hx1, hx2⟩
              all_goals go_wp2
              all_goals
                go_ret
                exact ⟨by rw [HV.out]; rfl, hk1⟩
          · have hi1 : decide ((200 : Int) ≤ s[1].toNat) = false := by simp; omega
            have hin1 : decide (200 ≤ s[1].toNat) = false := by simp; omega
            by_cases hc2 : 220 ≤ s[2].toNat
            · have hi2 : (220 : Int) ≤ s[2].toNat := by omega
              have HV : Hid (ffS s = ⟨#[35]⟩) := Lib.hid (ext_list2 (by
                show ffL s.data.toList = _
                rw [HFF.out, at_yes (by omega) hc2, at_no (by omega) (Nat.lt_of_not_le hc1), at_no (by omega) (Nat.lt_of_not_le hc0)]
                try rfl))
              rcases hexit with ⟨⟨hx1, hx3⟩, hx2⟩ | ⟨hx1, hx2⟩
              all_goals go_wp2
              all_goals
                go_ret
                exact ⟨by rw [HV.out]; rfl, hk1⟩
            · have hi2 : decide ((220 : Int) ≤ s[2].toNat) = false := by simp; omega
              have hin2 : decide (220 ≤ s[2].toNat) = false := by simp; omega
              have HV : Hid (ffS s = B) := Lib.hid (ext_list2 (by
                show ffL s.data.toList = _
                rw [HFF.out, at_no (by omega) (Nat.lt_of_not_le hc2), at_no (by omega) (Nat.lt_of_not_le hc1), at_no (by omega) (Nat.lt_of_not_le hc0)]
                try simp only [ba_app, HFB.out, if_true, Bool.false_eq_true, if_false]))
              rcases hexit with ⟨⟨hx1, hx3⟩, hx2⟩ | ⟨hx1, hx2⟩
              all_goals go_wp2
              all_goals
                go_ret
                exact ⟨by rw [HV.out]; rfl, hk1⟩

end Go.Proofs.YtcacpjdmlcclkaaDoor
