/-
  The contract of the document's Fix.
-/
import Derived.Test.YtlabkbdnknmngaaDoorText
import Derived.Laws.IdiomStrings
import Derived.Lib.BufferRead
import Derived.Test.YtlabkbdnknmngaaDoorJoinM
namespace Go.Proofs.YtlabkbdnknmngaaDoor
open Go.RowKit
set_option linter.unusedVariables false
set_option linter.unusedSimpArgs false

def fixB (s : ByteArray) (k : Nat) : ByteArray := ⟨((s.data.toList.take k).flatMap fun c => sg8 (c.toNat % 8)).toArray⟩
def sgB (k : Nat) : ByteArray := ⟨(sg8 k).toArray⟩
def fixS (s : ByteArray) : ByteArray := ⟨(fixL s.data.toList).toArray⟩
theorem fixB_zero (s : ByteArray) : fixB s 0 = ⟨#[]⟩ := rfl
theorem fixB_succ (s : ByteArray) (k : Nat) (h : k < s.size) : fixB s k ++ sgB (s[k].toNat % 8) = fixB s (k + 1) := by
  have h1 : s.data.toList.take (k + 1) = s.data.toList.take k ++ [s[k]] := by
    rw [List.take_succ_eq_append_getElem (by rw [sz_list]; exact h)]; rfl
  unfold fixB sgB
  rw [h1, List.flatMap_append]
  apply ByteArray.ext
  simp
theorem fixB_end (s : ByteArray) (k : Nat) (h : k = 8 ∨ k = s.size) (h8 : k ≤ 8) : fixB s k = fixS s := by
  unfold fixB fixS fixL
  rcases h with rfl | rfl
  · rfl
  · have h1 : s.data.toList.take s.size = s.data.toList.take 8 := by rw [List.take_of_length_le (by rw [sz_list]; omega), List.take_of_length_le (by rw [sz_list]; omega)]
    rw [h1]
theorem fixB_len (s : ByteArray) (k : Nat) : (fixB s k).size ≤ 4 * k := by
  have := flat8_len (s.data.toList.take k)
  have h2 : (s.data.toList.take k).length ≤ k := List.length_take_le _ _
  show ((s.data.toList.take k).flatMap fun c => sg8 (c.toNat % 8)).toArray.size ≤ 4 * k
  simp only [List.size_toArray]; omega
theorem sgB_len (k : Nat) : (sgB k).size ≤ 4 := by
  have := sg8_len k
  show (sg8 k).toArray.size ≤ 4
  simp only [List.size_toArray]; omega
theorem fixS_len (s : ByteArray) : (fixS s).size ≤ 32 := by
  have := fixL_len s.data.toList
  show (fixL s.data.toList).toArray.size ≤ 32
  simp only [List.size_toArray]; omega

set_option maxRecDepth 100000 in
set_option maxHeartbeats 1000000 in
theorem fix_any (s : ByteArray) (w : World) (hs : s.size ≤ 9223372036854775807) :
    Calls Tryd.prog 43 #[.string s] w fun e w' => e = .returned (.string (fixS s)) ∧ Kept No w w' := by
  go_enter Tryd.func43, Tryd.ntmps43
  go_wp2
  have hk1 : Kept No w (w.alloc (.cells #[.string ⟨#[97]⟩, .string ⟨#[98]⟩, .string ⟨#[97, 98]⟩, .string ⟨#[195, 164]⟩, .string ⟨#[226, 130, 172]⟩, .string ⟨#[240, 159, 153, 130]⟩, .string ⟨#[49]⟩, .string ⟨#[99]⟩] 9)) := (Kept.refl No w).alloc _
  have hcl : ∀ j, j < 8 → (w.alloc (.cells #[.string ⟨#[97]⟩, .string ⟨#[98]⟩, .string ⟨#[97, 98]⟩, .string ⟨#[195, 164]⟩, .string ⟨#[226, 130, 172]⟩, .string ⟨#[240, 159, 153, 130]⟩, .string ⟨#[49]⟩, .string ⟨#[99]⟩] 9)).cell? ⟨w.heap.size, j, none⟩ = some (.string (sgB j)) := by
    intro j hj
    rw [(Blk.new w _ _).cell]
    rcases (show j = 0 ∨ j = 1 ∨ j = 2 ∨ j = 3 ∨ j = 4 ∨ j = 5 ∨ j = 6 ∨ j = 7 from by omega) with rfl | rfl | rfl | rfl | rfl | rfl | rfl | rfl <;> rfl
  have HCL := Lib.hid hcl
  clear hcl
  go_loop [4, 5] (fun o i => ∃ k : Nat, i = .int .i64 k ∧ k ≤ s.size ∧ k ≤ 8 ∧ o = .string (fixB s k)) (fun _ i => 8 - (intOf i).toNat)
  case atStart => exact ⟨0, rfl, by omega, by omega, by rw [fixB_zero]⟩
  case round =>
    obtain ⟨k, rfl, hks, hk8, rfl⟩ := hrel
    by_cases hlt : k < s.size ∧ k < 8
    · obtain ⟨hl1, hl2⟩ := hlt
      have hl1I : (k : Int) < s.size := by omega
      have hl2I : (k : Int) < 8 := by omega
      have hc := HCL.out (s[k].toNat % 8) (by omega)
      have hb := byte_lt s[k]
      have hN : ((s[k].toNat : Int) % 8).toNat = s[k].toNat % 8 := by omega
      have hB0 : (0 : Int) ≤ (s[k].toNat : Int) % 8 := by omega
      have hB1 : (s[k].toNat : Int) % 8 < 8 := by omega
      have hlen := fixB_len s k
      have hlen2 := sgB_len (s[k].toNat % 8)
      have HS := Lib.hid (fixB_succ s k hl1)
      go_wp2
      go_round
      case rel => exact ⟨k + 1, by go_num, by omega, by omega, by rw [HS.out]⟩
      case measure => simp [intOf]; omega
    · have hend : k = 8 ∨ k = s.size := by omega
      have HE := Lib.hid (fixB_end s k hend hk8)
      clear hend
      by_cases hl1 : k < s.size
      · have hl1I : (k : Int) < s.size := by omega
        have hl2I : (8 : Int) ≤ k := by omega
        clear hlt
        go_wp2
        go_ret
        exact ⟨by rw [HE.out]; rfl, hk1⟩
      · have hl1I : (s.size : Int) ≤ k := by omega
        clear hlt
        go_wp2
        go_ret
        exact ⟨by rw [HE.out]; rfl, hk1⟩

end Go.Proofs.YtlabkbdnknmngaaDoor
