/-
  The document's Fix of names (pouchref04).
-/
import Derived.Test.YtlabkbdnknmngaaDoorVt
import Derived.Laws.IdiomStrings
import Derived.Lib.BufferRead
namespace Go.Proofs.YtlabkbdnknmngaaDoor
open Go.RowKit
set_option linter.unusedVariables false
set_option linter.unusedSimpArgs false

def tsg : Nat → List UInt8
  | 0 => [97]
  | 1 => [98]
  | 2 => [47]
  | 3 => [99]
  | 4 => [100]
  | 5 => [47]
  | 6 => [195, 164]
  | _ => [101]
theorem tsg_len (k : Nat) : (tsg k).length ≤ 2 := by unfold tsg; split <;> simp
theorem tsg_vt (k : Nat) : Vt (tsg k) := by
  unfold tsg
  split
  all_goals first | exact Vt.one (by decide) (by decide) | exact ⟨[[195, 164]], by simp; exact .inr rfl, rfl⟩
theorem tsg_in (k : Nat) : ∀ c ∈ tsg k, c ∈ ([97, 98, 47, 99, 100, 195, 164, 101] : List UInt8) := by
  unfold tsg
  split <;> decide
def tfixR (l : List UInt8) : List UInt8 := (l.take 8).flatMap fun c => tsg (c.toNat % 8)
def tfixL (l : List UInt8) : List UInt8 := if (tfixR l).isEmpty then [97] else tfixR l
theorem tflat_len (m : List UInt8) : (m.flatMap fun c => tsg (c.toNat % 8)).length ≤ 2 * m.length := by
  induction m with
  | nil => simp
  | cons c t ih => have := tsg_len (c.toNat % 8); simp only [List.flatMap_cons, List.length_append, List.length_cons]; omega
theorem tfix_len (l : List UInt8) : (tfixL l).length ≤ 16 := by
  have := tflat_len (l.take 8)
  have h2 : (l.take 8).length ≤ 8 := List.length_take_le _ _
  unfold tfixL tfixR
  split
  · simp
  · omega
theorem tfix_ne (l : List UInt8) : tfixL l ≠ [] := by
  unfold tfixL
  split
  · simp
  · rename_i h; intro e; rw [e] at h; simp at h
theorem tfix_vt (l : List UInt8) : Vt (tfixL l) := by
  unfold tfixL
  split
  · exact Vt.one (by decide) (by decide)
  · unfold tfixR
    generalize l.take 8 = m
    induction m with
    | nil => exact Vt.nil
    | cons c t ih => rw [List.flatMap_cons]; exact (tsg_vt _).append ih
theorem tfix_in (l : List UInt8) : ∀ c ∈ tfixL l, c ∈ ([97, 98, 47, 99, 100, 195, 164, 101] : List UInt8) := by
  unfold tfixL
  split
  · decide
  · intro c hc
    obtain ⟨d, _, hd⟩ := List.mem_flatMap.1 hc
    exact tsg_in _ c hd
def tfixB (s : ByteArray) (k : Nat) : ByteArray := ⟨((s.data.toList.take k).flatMap fun c => tsg (c.toNat % 8)).toArray⟩
def tsgB (k : Nat) : ByteArray := ⟨(tsg k).toArray⟩
def tfixS (s : ByteArray) : ByteArray := ⟨(tfixL s.data.toList).toArray⟩
theorem tfixB_succ (s : ByteArray) (k : Nat) (h : k < s.size) : tfixB s k ++ tsgB (s[k].toNat % 8) = tfixB s (k + 1) := by
  have h1 : s.data.toList.take (k + 1) = s.data.toList.take k ++ [s[k]] := by
    rw [List.take_succ_eq_append_getElem (by rw [sz_list]; exact h)]; rfl
  unfold tfixB tsgB
  rw [h1, List.flatMap_append]
  apply ByteArray.ext
  simp
theorem tfixB_end (s : ByteArray) (k : Nat) (h : k = 8 ∨ k = s.size) (h8 : k ≤ 8) : tfixB s k = ⟨(tfixR s.data.toList).toArray⟩ := by
  unfold tfixB tfixR
  rcases h with rfl | rfl
  · rfl
  · have h1 : s.data.toList.take s.size = s.data.toList.take 8 := by rw [List.take_of_length_le (by rw [sz_list]; omega), List.take_of_length_le (by rw [sz_list]; omega)]
    rw [h1]
theorem tfixB_len (s : ByteArray) (k : Nat) : (tfixB s k).size ≤ 2 * k := by
  have := tflat_len (s.data.toList.take k)
  have h2 : (s.data.toList.take k).length ≤ k := List.length_take_le _ _
  show ((s.data.toList.take k).flatMap fun c => tsg (c.toNat % 8)).toArray.size ≤ 2 * k
  simp only [List.size_toArray]; omega
theorem tsgB_len (k : Nat) : (tsgB k).size ≤ 2 := by
  have := tsg_len k
  show (tsg k).toArray.size ≤ 2
  simp only [List.size_toArray]; omega

set_option maxRecDepth 100000 in
set_option maxHeartbeats 1000000 in
theorem tfix_any (s : ByteArray) (w : World) (hs : s.size ≤ 9223372036854775807) :
    Calls Tryd.prog 44 #[.string s] w fun e w' => e = .returned (.string (tfixS s)) ∧ Kept No w w' := by
  go_enter Tryd.func44, Tryd.ntmps44
  go_wp2
  have hk1 : Kept No w (w.alloc (.cells #[.string ⟨#[97]⟩, .string ⟨#[98]⟩, .string ⟨#[47]⟩, .string ⟨#[99]⟩, .string ⟨#[100]⟩, .string ⟨#[47]⟩, .string ⟨#[195, 164]⟩, .string ⟨#[101]⟩] 9)) := (Kept.refl No w).alloc _
  have hcl : ∀ j, j < 8 → (w.alloc (.cells #[.string ⟨#[97]⟩, .string ⟨#[98]⟩, .string ⟨#[47]⟩, .string ⟨#[99]⟩, .string ⟨#[100]⟩, .string ⟨#[47]⟩, .string ⟨#[195, 164]⟩, .string ⟨#[101]⟩] 9)).cell? ⟨w.heap.size, j, none⟩ = some (.string (tsgB j)) := by
    intro j hj
    rw [(Blk.new w _ _).cell]
    rcases (show j = 0 ∨ j = 1 ∨ j = 2 ∨ j = 3 ∨ j = 4 ∨ j = 5 ∨ j = 6 ∨ j = 7 from by omega) with rfl | rfl | rfl | rfl | rfl | rfl | rfl | rfl <;> rfl
  have HCL := Lib.hid hcl
  clear hcl
  go_loop [4, 5] (fun o i => ∃ k : Nat, i = .int .i64 k ∧ k ≤ s.size ∧ k ≤ 8 ∧ o = .string (tfixB s k)) (fun _ i => 8 - (intOf i).toNat)
  case atStart => exact ⟨0, rfl, by omega, by omega, rfl⟩
  case round =>
    obtain ⟨k, rfl, hks, hk8, rfl⟩ := hrel
    by_cases hlt : k < s.size ∧ k < 8
    · obtain ⟨hl1, hl2⟩ := hlt
      have hl1I : (k : Int) < s.size := by omega
      have hl2I : (k : Int) < 8 := by omega
      have hc := HCL.out (s[k].toNat % 8) (by omega)
      have hb := byte_lt s[k]
      have hN : ((s[k].toNat : Int) % 8).toNat = s[k].toNat % 8 := by omega
      have hB0 : (0 : Int) ≤ (s[k].toNat : Int) % 8 := by omega
      have hB1 : (s[k].toNat : Int) % 8 < 8 := by omega
      have hlen := tfixB_len s k
      have hlen2 := tsgB_len (s[k].toNat % 8)
      have HS := Lib.hid (tfixB_succ s k hl1)
      go_wp2
      go_round
      case rel => exact ⟨k + 1, by go_num, by omega, by omega, by rw [HS.out]⟩
      case measure => simp [intOf]; omega
    · have hend : k = 8 ∨ k = s.size := by omega
      have HE := Lib.hid (tfixB_end s k hend hk8)
      have HF : Hid (tfixS s = if (tfixR s.data.toList).isEmpty then ⟨#[97]⟩ else ⟨(tfixR s.data.toList).toArray⟩) := Lib.hid (by unfold tfixS tfixL; split <;> rfl)
      rw [HE.out]
      generalize tfixR s.data.toList = R at *
      clear hend HE
      cases R with
      | nil =>
        have HT : Hid (tfixS s = ⟨#[97]⟩) := Lib.hid (by rw [HF.out]; rfl)
        clear HF
        by_cases hl1 : k < s.size
        · have hl1I : (k : Int) < s.size := by omega
          have hl2I : (8 : Int) ≤ k := by omega
          clear hlt
          go_wp2
          go_ret
          exact ⟨by rw [HT.out]; rfl, hk1⟩
        · have hl1I : (s.size : Int) ≤ k := by omega
          clear hlt
          go_wp2
          go_ret
          exact ⟨by rw [HT.out]; rfl, hk1⟩
      | cons c t =>
        have HT : Hid (tfixS s = ⟨(c :: t).toArray⟩) := Lib.hid (by rw [HF.out]; rfl)
        clear HF
        by_cases hl1 : k < s.size
        · have hl1I : (k : Int) < s.size := by omega
          have hl2I : (8 : Int) ≤ k := by omega
          clear hlt
          go_wp2
          go_ret
          exact ⟨by rw [HT.out]; rfl, hk1⟩
        · have hl1I : (s.size : Int) ≤ k := by omega
          clear hlt
          go_wp2
          go_ret
          exact ⟨by rw [HT.out]; rfl, hk1⟩

end Go.Proofs.YtlabkbdnknmngaaDoor
