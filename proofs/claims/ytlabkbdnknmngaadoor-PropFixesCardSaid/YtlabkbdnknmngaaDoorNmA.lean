/-
  topic.Name, of all texts.
-/
import Derived.Test.YtlabkbdnknmngaaDoorWildA
namespace Go.Proofs.YtlabkbdnknmngaaDoor
open Go.RowKit
set_option linter.unusedVariables false
set_option linter.unusedSimpArgs false

/-- May a message be named so? -/
def nameB (s : ByteArray) : Bool := okText s && (decide (0 < s.size) && !wildL s.data.toList)
theorem okText_size {s : ByteArray} (h : okText s = true) : s.size ≤ 65535 := by
  unfold okText at h
  simp at h
  exact h.1
theorem empty_of {s : ByteArray} (h : s.size = 0) : s = ⟨#[]⟩ := ByteArray.ext (Array.eq_empty_of_size_eq_zero h)
theorem isEmpty_of {s : ByteArray} (h : 0 < s.size) : s.toList.isEmpty = false := by
  rw [Lib.toList_data]
  have : s.data.toList.length = s.size := sz_list s
  cases hl : s.data.toList with
  | nil => rw [hl] at this; simp at this; omega
  | cons _ _ => rfl
set_option maxHeartbeats 1000000 in
theorem name_any (s : ByteArray) (w : World) (hs : s.size ≤ 9223372036854775807) (hT : Tabs w) :
    Calls Tryd.prog 48 #[.string s] w fun e w' => e = .returned (.bool (nameB s)) ∧ Kept No w w' := by
  unfold nameB
  by_cases h0 : s.size = 0
  · obtain rfl := empty_of h0
    go_enter Tryd.func48, Tryd.ntmps48
    go_wp2
    go_ret
    exact ⟨by simp [ByteArray.size], Kept.refl _ _⟩
  · have hE := isEmpty_of (s := s) (by omega)
    have hd : decide (0 < s.size) = true := by simp; omega
    rw [hd]
    have cO := right_any s w hs hT
    rcases hO : okText s with _ | _
    · rw [hO] at cO
      have HO := Lib.hid cO
      clear cO hO
      go_enter Tryd.func48, Tryd.ntmps48
      go_wp2_with (go_at_call 79; refine HO.out.mono ?_; rintro e w1 ⟨rfl, hk⟩)
      go_ret
      exact ⟨rfl, hk⟩
    · rw [hO] at cO
      have HO := Lib.hid cO
      have cW := Lib.hid (fun wx => wild_any s wx (by have := okText_size hO; omega))
      clear cO hO
      generalize wildL s.data.toList = B at *
      go_enter Tryd.func48, Tryd.ntmps48
      go_wp2_with (first
        | (go_at_call 79; refine HO.out.mono ?_; rintro e w1 ⟨rfl, hk⟩)
        | (go_at_call 80; refine (cW.out _).mono ?_; rintro e w2 ⟨rfl, hk2⟩))
      go_ret
      exact ⟨by simp, hk.trans hk2⟩

theorem own_keptNo {w w' : World} {base : Nat} {e : TypeId} {size n : Nat} {v : Value} {xs : List Value} (h : w.ownsRow base e size v n xs) (hk : Kept No w w') : w'.ownsRow base e size v n xs := by
  refine ⟨h.1, ?_⟩
  rcases h.2 with hn | ⟨g, cap, cur, hv, hb, hg, rest⟩
  · exact .inl hn
  · exact .inr ⟨g, cap, cur, hv, hb, (hk.block g (Array.getElem?_eq_some_iff.1 hg).1 (fun f => f)).trans hg, rest⟩

end Go.Proofs.YtlabkbdnknmngaaDoor
