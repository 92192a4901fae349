/-
  Contracts of package topic: Name, halves, plain.
-/
import Derived.Test.YtlgbljohhnhhkaaDoorTopL
namespace Go.Proofs.YtlgbljohhnhhkaaDoor
open Go.RowKit
set_option linter.unusedVariables false
set_option linter.unusedSimpArgs false

theorem clone_any (s : ByteArray) (w : World) (hs : s.size < 4294967281) : Calls Tryd.prog 19 #[.string s] w fun e w' => e = .returned (.string s) ∧ Kept No w w' := by
  have c := Lib.hid (Tryd.stringslite_Clone s w (by omega))
  go_enter Tryd.func19, Tryd.ntmps19
  go_wp2_with (go_at_call 26; refine c.out.mono ?_; rintro e w' ⟨rfl, hb⟩)
  go_ret
  exact ⟨rfl, .of_below hb⟩

/-- May a message be named so? -/
def nameB (s : ByteArray) : Bool := okText s && (decide (0 < s.size) && !wildL s.data.toList)
theorem okText_size {s : ByteArray} (h : okText s = true) : s.size ≤ 65535 := by
  unfold okText at h
  simp at h
  exact h.1
theorem empty_of {s : ByteArray} (h : s.size = 0) : s = ⟨#[]⟩ := ByteArray.ext (Array.eq_empty_of_size_eq_zero h)
theorem isEmpty_of {s : ByteArray} (h : 0 < s.size) : s.toList.isEmpty = false := by
  rw [Lib.toList_data]
  have : s.data.toList.length = s.size := sz_list s
  cases hl : s.data.toList with
  | nil => rw [hl] at this; simp at this; omega
  | cons _ _ => rfl
set_option maxHeartbeats 1000000 in
theorem name_any (s : ByteArray) (w : World) (hs : s.size ≤ 9223372036854775807) (hT : Tabs w) :
    Calls Tryd.prog 15 #[.string s] w fun e w' => e = .returned (.bool (nameB s)) ∧ Kept No w w' := by
  unfold nameB
  by_cases h0 : s.size = 0
  · obtain rfl := empty_of h0
    go_enter Tryd.func15, Tryd.ntmps15
    go_wp2
    go_ret
    exact ⟨by simp [ByteArray.size], Kept.refl _ _⟩
  · have hE := isEmpty_of (s := s) (by omega)
    have hd : decide (0 < s.size) = true := by simp; omega
    rw [hd]
    have cO := right_any s w hs hT
    rcases hO : okText s with _ | _
    · rw [hO] at cO
      have HO := Lib.hid cO
      clear cO hO
      go_enter Tryd.func15, Tryd.ntmps15
      go_wp2_with (go_at_call 21; refine HO.out.mono ?_; rintro e w1 ⟨rfl, hk⟩)
      go_ret
      exact ⟨rfl, hk⟩
    · rw [hO] at cO
      have HO := Lib.hid cO
      have cW := Lib.hid (fun wx => wild_any s wx (by have := okText_size hO; omega))
      clear cO hO
      generalize wildL s.data.toList = B at *
      go_enter Tryd.func15, Tryd.ntmps15
      go_wp2_with (first
        | (go_at_call 21; refine HO.out.mono ?_; rintro e w1 ⟨rfl, hk⟩)
        | (go_at_call 22; refine (cW.out _).mono ?_; rintro e w2 ⟨rfl, hk2⟩))
      go_ret
      exact ⟨by simp, hk.trans hk2⟩

/-- May a plain filter's levels be so? -/
def okLev : List (List UInt8) → Bool
  | [] => true
  | x :: r => (!wildL x || (x == [43] || (x == [35] && r.isEmpty))) && okLev r
def plainL (l : List UInt8) : Bool := !l.isEmpty && okLev (lev l)

end Go.Proofs.YtlgbljohhnhhkaaDoor
