/-
  The library's calls of topic: Split and Cut at a slash, HasPrefix, Clone.
-/
import Derived.Test.YtfhcmmmgnkinoaaDoorTopM
import Derived.Test.YtfhcmmmgnkinoaaDoorWildA
import Derived.Shelf.Strings.Split
import Derived.Shelf.Strings.SplitCore
import Derived.Lib.CutLaws
namespace Go.Proofs.YtfhcmmmgnkinoaaDoor
open Go.RowKit
set_option linter.unusedVariables false
set_option linter.unusedSimpArgs false

def strsL (L : List (List UInt8)) : List Value := L.map fun l => .string ⟨l.toArray⟩
theorem strsL_length (L : List (List UInt8)) : (strsL L).length = L.length := by simp [strsL]
theorem split_cells (s : ByteArray) : (Lib.splitB ⟨#[47]⟩ 0 (Lib.countB s ⟨#[47]⟩) s).map Value.string = strsL (lev s.data.toList) := by
  have h1 := Lib.splitB_data ⟨#[47]⟩ 0 (Lib.countB s ⟨#[47]⟩) s
  have h2 : Lib.countB s ⟨#[47]⟩ = s.data.toList.count 47 := Lib.count_one 47 s.data.toList
  have h3 : Lib.splitK (⟨#[47]⟩ : ByteArray).data.toList 0 (Lib.countB s ⟨#[47]⟩) s.data.toList = lev s.data.toList := splitK_lev _ _ (by rw [h2]; exact Nat.le_refl _)
  rw [h3] at h1
  rw [← h1]
  unfold strsL
  rw [List.map_map]
  refine List.map_congr_left fun x _ => ?_
  simp
theorem split_count (s : ByteArray) : Lib.countB s ⟨#[47]⟩ + 1 = (lev s.data.toList).length := by
  rw [← strsL_length, ← split_cells, List.length_map, Lib.splitB_all ⟨#[47]⟩ (by decide) 0 _ s rfl]
theorem info_str : (Tryd.prog.info? 9).map (fun i => (i.zero, i.size, i.bytes)) = some (some (.string ByteArray.empty), 1, 16) := by kernel_rfl
theorem genSplit_any (s : ByteArray) (w : World) (hs : s.size < 4294967281) :
    Calls Tryd.prog 169 #[.string s, .string ⟨#[47]⟩, .int .i64 0, .int .i64 (-1)] w fun e w' =>
      e = .returned (.slice (some ⟨w.heap.size, 0, none⟩) (lev s.data.toList).length (lev s.data.toList).length) ∧ w' = w.alloc (.cells (strsL (lev s.data.toList)).toArray 9) := by
  have hle := Lib.countB_le ⟨#[47]⟩ (by decide) s.size s (Nat.le_refl _)
  have hlen := Lib.splitB_all ⟨#[47]⟩ (by decide) 0 _ s rfl
  have c := Any.strings_genSplit_core Tryd.lays221 info_str s ⟨#[47]⟩ 0 (-1) (Lib.countB s ⟨#[47]⟩ + 1) w hs (by decide) (Nat.zero_le _)
    (fun x c _ => by
      have h := Tryd.strings_Index_one x 47 (w.alloc (.cells c 9))
      rw [← Lib.index_one] at h
      exact h)
    (by
      have h := Tryd.strings_Count_one s 47 w
      have e : (Lib.countByte s.data.toList 47 : Int) = (Lib.countB s ⟨#[47]⟩ : Nat) := by
        have := Lib.count_one 47 s.data.toList
        unfold Lib.countByte
        rw [← this]
      rw [e] at h
      exact h)
    (by decide) (by decide) (by rw [if_pos (by decide)]; omega)
  rw [Nat.add_sub_cancel, hlen] at c
  have e2 : Lib.cellsOf (Lib.splitB ⟨#[47]⟩ 0 (Lib.countB s ⟨#[47]⟩) s) (Lib.countB s ⟨#[47]⟩ + 1) = (strsL (lev s.data.toList)).toArray := by
    rw [← split_cells, ← hlen]
    exact Lib.cellsOf_full _
  rw [e2, split_count] at c
  exact c
/-- A call that answers the levels of a text. -/
def LevIs (w : World) (L : List (List UInt8)) (e : Ending) (w' : World) : Prop := ∃ a, e = .returned (.slice a L.length L.length) ∧ Row w' a (strsL L) ∧ Kept No w w'
theorem split_any (s : ByteArray) (w : World) (hs : s.size < 4294967281) :
    Calls Tryd.prog 163 #[.string s, .string ⟨#[47]⟩] w (LevIs w (lev s.data.toList)) := by
  have c := Lib.hid (genSplit_any s w hs)
  generalize lev s.data.toList = L at *
  go_enter Tryd.func163, Tryd.ntmps163
  go_wp2_with (go_at_call 169; go_loud (refine c.out.mono ?_); rintro e w' ⟨rfl, hw⟩; rw [hw])
  go_ret
  exact ⟨_, rfl, .of_cells (new_cells w _ _ _ rfl), (Kept.refl No w).alloc _⟩

set_option maxRecDepth 100000 in
set_option maxHeartbeats 2000000 in
theorem cutlite_any (s : ByteArray) (w : World) (hs : s.size < 4294967281) :
    Calls Tryd.prog 170 #[.string s, .string ⟨#[47]⟩] w fun e w' => e = .returned (.tuple #[.string ⟨(whoL s.data.toList).toArray⟩, .string ⟨(whatL s.data.toList).toArray⟩, .bool (s.data.toList.contains 47)]) ∧ Kept No w w' := by
  have hc := cut_eq s.data.toList
  have hI := Tryd.stringslite_Index_one s 47
  rw [← Lib.index_one] at hI
  have hcut : ((⟨#[47]⟩ : ByteArray)).data.toList = [47] := rfl
  rcases Lib.indexB_cases s ⟨#[47]⟩ with hix | ⟨i, hix, hroom⟩
  · obtain ⟨e1, e2, e3⟩ := Lib.cutB_miss s ⟨#[47]⟩ hix
    rw [hcut, hc] at e1 e2 e3
    rw [e1, e2]
    try rw [show s.data.toList.contains 47 = true from e3]
    try rw [show s.data.toList.contains 47 = false from e3]
    have hI2 := Lib.hid (fun wx => (by have := hI wx; rw [show Lib.index s.data.toList [47] = -1 from hix] at this; exact this : Calls Tryd.prog 175 #[.string s, .string ⟨#[47]⟩] wx fun e w' => e = .returned (.int .i64 (-1)) ∧ w' = wx))
    clear hI hc e1 e2 e3 hix
    go_enter Tryd.func170, Tryd.ntmps170
    go_wp2_with (go_at_call 175; refine (hI2.out _).mono ?_; rintro e w' ⟨rfl, hw⟩; rw [hw])
    go_ret3
    exact ⟨rfl, Kept.refl _ _⟩
  · obtain ⟨e1, e2, e3⟩ := Lib.cutB_hit s ⟨#[47]⟩ i hix
    rw [hcut, hc] at e1 e2 e3
    rw [e1, e2]
    try rw [show s.data.toList.contains 47 = true from e3]
    try rw [show s.data.toList.contains 47 = false from e3]
    have hI2 := Lib.hid (fun wx => (by have := hI wx; rw [show Lib.index s.data.toList [47] = i from hix] at this; exact this : Calls Tryd.prog 175 #[.string s, .string ⟨#[47]⟩] wx fun e w' => e = .returned (.int .i64 i) ∧ w' = wx))
    have hr2 : i + 1 ≤ s.size := hroom
    have c1 : (0 : Int) ≤ ↑i := by omega
    have c2 : (↑i : Int) ≤ ↑s.size := by omega
    have c3 : (0 : Int) ≤ ↑i + 1 := by omega
    have c4 : (↑i + 1 : Int) ≤ ↑s.size := by omega
    clear hI hc e1 e2 e3 hix hroom
    go_enter Tryd.func170, Tryd.ntmps170
    go_wp2_with (go_at_call 175; refine (hI2.out _).mono ?_; rintro e w' ⟨rfl, hw⟩; rw [hw])
    go_quiet (fail)
    go_wp2
    go_ret3
    exact ⟨rfl, (Kept.refl No w).drewN _⟩

end Go.Proofs.YtfhcmmmgnkinoaaDoor
