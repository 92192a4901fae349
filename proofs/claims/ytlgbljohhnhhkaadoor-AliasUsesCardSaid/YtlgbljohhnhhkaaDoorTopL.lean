/-
  The library's calls of topic: Split and Cut at a slash, HasPrefix, Clone.
-/
import Derived.Test.YtlgbljohhnhhkaaDoorTopM
import Derived.Test.YtlgbljohhnhhkaaDoorWildA
import Derived.Shelf.Strings.Split
import Derived.Shelf.Strings.SplitCore
import Derived.Lib.CutLaws
namespace Go.Proofs.YtlgbljohhnhhkaaDoor
open Go.RowKit
set_option linter.unusedVariables false
set_option linter.unusedSimpArgs false

def strsL (L : List (List UInt8)) : List Value := L.map fun l => .string ⟨l.toArray⟩
theorem strsL_length (L : List (List UInt8)) : (strsL L).length = L.length := by simp [strsL]
theorem split_cells (s : ByteArray) : (Lib.splitB ⟨#[47]⟩ 0 (Lib.countB s ⟨#[47]⟩) s).map Value.string = strsL (lev s.data.toList) := by
  have h1 := Lib.splitB_data ⟨#[47]⟩ 0 (Lib.countB s ⟨#[47]⟩) s
  have h2 : Lib.countB s ⟨#[47]⟩ = s.data.toList.count 47 := Lib.count_one 47 s.data.toList
  have h3 : Lib.splitK (⟨#[47]⟩ : ByteArray).data.toList 0 (Lib.countB s ⟨#[47]⟩) s.data.toList = lev s.data.toList := splitK_lev _ _ (by rw [h2]; exact Nat.le_refl _)
  rw [h3] at h1
  rw [← h1]
  unfold strsL
  rw [List.map_map]
  refine List.map_congr_left fun x _ => ?_
  simp
theorem split_count (s : ByteArray) : Lib.countB s ⟨#[47]⟩ + 1 = (lev s.data.toList).length := by
  rw [← strsL_length, ← split_cells, List.length_map, Lib.splitB_all ⟨#[47]⟩ (by decide) 0 _ s rfl]
theorem info_str : (Tryd.prog.info? 9).map (fun i => (i.zero, i.size, i.bytes)) = some (some (.string ByteArray.empty), 1, 16) := by kernel_rfl
/-- A call that answers the levels of a text. -/
def LevIs (w : World) (L : List (List UInt8)) (e : Ending) (w' : World) : Prop := ∃ a, e = .returned (.slice a L.length L.length) ∧ Row w' a (strsL L) ∧ Kept No w w'
end Go.Proofs.YtlgbljohhnhhkaaDoor
