/-
  The walks of TextRights and TextLongs.
-/
import Derived.Test.YtfkddmdoepiikabDoorText2
import Derived.Laws.IdiomStrings
import Derived.Lib.BufferRead
namespace Go.Proofs.YtfkddmdoepiikabDoor
open Go.RowKit
set_option linter.unusedVariables false
set_option linter.unusedSimpArgs false

theorem max_ref (s : ByteArray) : max (refRunes s) 0 = (cntText s : Int) := by
  unfold refRunes cntText
  split <;> omega
theorem told2_any (w : World) (hT : Tabs w) : Calls Tryd.prog 7 #[] w fun e w' => e = .returned (.bool true) ∧ Kept No w w' := by
  have t1 : okText ⟨#[97, 195, 164]⟩ = true := by decide +kernel
  have t2 : cntText ⟨#[97, 195, 164]⟩ = 2 := by decide +kernel
  have t3 : okText ⟨#[192, 128]⟩ = false := by decide +kernel
  have t4 : okText ⟨#[237, 160, 128]⟩ = false := by decide +kernel
  have t5 : okText ⟨#[244, 144, 128, 128]⟩ = false := by decide +kernel
  have t6 : okText ⟨#[0]⟩ = false := by decide +kernel
  have t7 : okText ⟨#[]⟩ = true := by decide +kernel
  have hK := Kept.refl No w
  go_enter Tryd.func7, Tryd.ntmps7
  go_wp2_with (first
    | (go_at_call 8; refine (right_any _ _ (by decide) (hT.kept hK)).mono ?_; rintro e w1 ⟨rfl, hk⟩; have hK := hK.trans hk)
    | (go_at_call 10; refine (runes_any _ _ (by decide) (hT.kept hK)).mono ?_; rintro e w1 ⟨rfl, hk⟩; have hK := hK.trans hk))
  go_ret
  exact ⟨rfl, hK⟩

set_option maxRecDepth 100000 in
set_option maxHeartbeats 1000000 in
theorem textRights_walk (s : ByteArray) (w : World) (hs : s.size ≤ maxLen) (hT : Tabs w) :
    Calls Tryd.prog 3 #[.string s] w fun e w' => e = .returned (.bool true) ∧ Below w.heap.size w w' := by
  unfold maxLen at hs
  go_enter Tryd.func3, Tryd.ntmps3
  have htl : (s.extract 0 (min (s.size : Int) 400).toNat).size ≤ 400 := by rw [ByteArray.size_extract]; omega
  go_wp2_with fail
  generalize s.extract 0 (min (s.size : Int) 400).toNat = t at *
  have hmx := max_ref t
  have hK := Kept.refl No w
  go_wp2_with (first
    | (go_at_call 7; refine (told2_any _ (hT.kept hK)).mono ?_; rintro e w1 ⟨rfl, hk⟩; have hK := hK.trans hk)
    | (go_at_call 8; refine (right_any _ _ (by omega) (hT.kept hK)).mono ?_; rintro e w1 ⟨rfl, hk⟩; have hK := hK.trans hk)
    | (go_at_call 10; refine (runes_any _ _ (by omega) (hT.kept hK)).mono ?_; rintro e w1 ⟨rfl, hk⟩; have hK := hK.trans hk)
    | (go_at_call 9; refine (refRight_any _ _ (by omega)).mono ?_; rintro e w1 ⟨rfl, rfl⟩)
    | (go_at_call 11; refine (refRunes_any _ _ (by omega)).mono ?_; rintro e w1 ⟨rfl, rfl⟩))
  go_ret
  exact ⟨rfl, hK.below (Nat.le_refl _) (fun _ _ f => f)⟩

end Go.Proofs.YtfkddmdoepiikabDoor
