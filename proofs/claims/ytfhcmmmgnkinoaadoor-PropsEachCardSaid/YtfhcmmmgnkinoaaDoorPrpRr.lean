/-
  The document's Right of a property: made by mkprr.py.
-/
import Derived.Test.YtfhcmmmgnkinoaaDoorPrpR
namespace Go.Proofs.YtfhcmmmgnkinoaaDoor
open Go.RowKit
set_option linter.unusedVariables false
set_option linter.unusedSimpArgs false

set_option maxRecDepth 100000 in
set_option maxHeartbeats 8000000 in
theorem rright_any (id n : Nat) (a b : ByteArray) (w : World) (h8 : id < 256) (hn : n < 4294967296) (ha : a.size ≤ 9223372036854775807) (hb : b.size ≤ 9223372036854775807) :
    Calls Tryd.prog 48 #[.agg #[.int .u8 id, .int .u32 n, .string a, .string b]] w fun e w' => e = .returned (.bool (rightB id n a b)) ∧ Kept No w w' := by
  have cT := rtype_any id
  have ht := typL_le id
  unfold rightB
  generalize typL id = t at *
  have HT := Lib.hid cT
  clear cT
  have hle : n ≤ 4294967295 := by omega
  rcases hea : a.toList.isEmpty with _ | _ <;> rcases heb : b.toList.isEmpty with _ | _
  all_goals
    generalize hR : rightT t n a b = R
    rcases (show t = 0 ∨ t = 1 ∨ t = 2 ∨ t = 3 ∨ t = 4 ∨ t = 5 ∨ t = 6 ∨ t = 7 from by omega) with rfl | rfl | rfl | rfl | rfl | rfl | rfl | rfl
    · have HR : Hid (R = false) := Lib.hid (by rw [← hR]; unfold rightT numB noTexts; simp [])
      clear hR
      go_enter Tryd.func48, Tryd.ntmps48
      go_wp2_with (go_at_call 86; refine (HT.out _).mono ?_; rintro e w1 ⟨rfl, rfl⟩)
      go_ret
      exact ⟨by rw [HR.out]; rfl, (Kept.refl No w).alloc _⟩
    · by_cases hl : n < 256
      · have hz : (n : Int) < 256 := by omega
        have HR : Hid (R = (a.toList.isEmpty && b.toList.isEmpty)) := Lib.hid (by rw [← hR]; unfold rightT numB noTexts; simp [show n ≤ 255 from by omega])
        rw [hea, heb] at HR
        clear hR
        go_enter Tryd.func48, Tryd.ntmps48
        go_wp2_with (go_at_call 86; refine (HT.out _).mono ?_; rintro e w1 ⟨rfl, rfl⟩)
        go_ret
        exact ⟨by rw [HR.out]; rfl, (Kept.refl No w).alloc _⟩
      · have hz : decide ((n : Int) < 256) = false := by simp; omega
        have HR : Hid (R = false) := Lib.hid (by rw [← hR]; unfold rightT numB noTexts; simp [show ¬ n ≤ 255 from by omega])
        clear hR
        go_enter Tryd.func48, Tryd.ntmps48
        go_wp2_with (go_at_call 86; refine (HT.out _).mono ?_; rintro e w1 ⟨rfl, rfl⟩)
        go_ret
        exact ⟨by rw [HR.out]; rfl, (Kept.refl No w).alloc _⟩
    · by_cases hl : n < 65536
      · have hz : (n : Int) < 65536 := by omega
        have HR : Hid (R = (a.toList.isEmpty && b.toList.isEmpty)) := Lib.hid (by rw [← hR]; unfold rightT numB noTexts; simp [show n ≤ 65535 from by omega])
        rw [hea, heb] at HR
        clear hR
        go_enter Tryd.func48, Tryd.ntmps48
        go_wp2_with (go_at_call 86; refine (HT.out _).mono ?_; rintro e w1 ⟨rfl, rfl⟩)
        go_ret
        exact ⟨by rw [HR.out]; rfl, (Kept.refl No w).alloc _⟩
      · have hz : decide ((n : Int) < 65536) = false := by simp; omega
        have HR : Hid (R = false) := Lib.hid (by rw [← hR]; unfold rightT numB noTexts; simp [show ¬ n ≤ 65535 from by omega])
        clear hR
        go_enter Tryd.func48, Tryd.ntmps48
        go_wp2_with (go_at_call 86; refine (HT.out _).mono ?_; rintro e w1 ⟨rfl, rfl⟩)
        go_ret
        exact ⟨by rw [HR.out]; rfl, (Kept.refl No w).alloc _⟩
    · have HR : Hid (R = (a.toList.isEmpty && b.toList.isEmpty)) := Lib.hid (by rw [← hR]; unfold rightT numB noTexts; simp [hle])
      rw [hea, heb] at HR
      clear hR hle
      go_enter Tryd.func48, Tryd.ntmps48
      go_wp2_with (go_at_call 86; refine (HT.out _).mono ?_; rintro e w1 ⟨rfl, rfl⟩)
      go_ret
      exact ⟨by rw [HR.out]; rfl, (Kept.refl No w).alloc _⟩
    · by_cases hl : n < 268435456
      · have hz : (n : Int) < 268435456 := by omega
        have HR : Hid (R = (a.toList.isEmpty && b.toList.isEmpty)) := Lib.hid (by rw [← hR]; unfold rightT numB noTexts; simp [show n ≤ 268435455 from by omega])
        rw [hea, heb] at HR
        clear hR hle
        go_enter Tryd.func48, Tryd.ntmps48
        go_wp2_with (go_at_call 86; refine (HT.out _).mono ?_; rintro e w1 ⟨rfl, rfl⟩)
        go_ret
        exact ⟨by rw [HR.out]; rfl, (Kept.refl No w).alloc _⟩
      · have hz : decide ((n : Int) < 268435456) = false := by simp; omega
        have HR : Hid (R = false) := Lib.hid (by rw [← hR]; unfold rightT numB noTexts; simp [show ¬ n ≤ 268435455 from by omega])
        clear hR hle
        go_enter Tryd.func48, Tryd.ntmps48
        go_wp2_with (go_at_call 86; refine (HT.out _).mono ?_; rintro e w1 ⟨rfl, rfl⟩)
        go_ret
        exact ⟨by rw [HR.out]; rfl, (Kept.refl No w).alloc _⟩
    · by_cases h0 : n = 0
      · subst h0
        have cO := fun wx => refRight_any a wx ha
        rcases hO : okText a with _ | _
        · rw [hO] at cO
          have HO := Lib.hid cO
          have HR : Hid (R = false) := Lib.hid (by rw [← hR]; unfold rightT; simp [hO])
          clear hR cO hO
          go_enter Tryd.func48, Tryd.ntmps48
          go_wp2_with (first
            | (go_at_call 86; refine (HT.out _).mono ?_; rintro e w1 ⟨rfl, rfl⟩)
            | (go_at_call 87; refine (HO.out _).mono ?_; rintro e w2 ⟨rfl, rfl⟩))
          go_ret
          exact ⟨by rw [HR.out]; rfl, (Kept.refl No w).alloc _⟩
        · rw [hO] at cO
          have HO := Lib.hid cO
          have HR : Hid (R = b.toList.isEmpty) := Lib.hid (by rw [← hR]; unfold rightT; simp [hO])
          rw [heb] at HR
          clear hR cO hO
          go_enter Tryd.func48, Tryd.ntmps48
          go_wp2_with (first
            | (go_at_call 86; refine (HT.out _).mono ?_; rintro e w1 ⟨rfl, rfl⟩)
            | (go_at_call 87; refine (HO.out _).mono ?_; rintro e w2 ⟨rfl, rfl⟩))
          go_ret
          exact ⟨by rw [HR.out]; rfl, (Kept.refl No w).alloc _⟩
      · have HR : Hid (R = false) := Lib.hid (by rw [← hR]; unfold rightT; simp [h0])
        have hz : ((n : Int) == 0) = false := by simp; omega
        clear hR h0
        go_enter Tryd.func48, Tryd.ntmps48
        go_wp2_with (go_at_call 86; refine (HT.out _).mono ?_; rintro e w1 ⟨rfl, rfl⟩)
        go_ret
        exact ⟨by rw [HR.out]; rfl, (Kept.refl No w).alloc _⟩
    · by_cases h0 : n = 0
      · subst h0
        by_cases hs : a.size ≤ 65535
        · have HR : Hid (R = b.toList.isEmpty) := Lib.hid (by rw [← hR]; unfold rightT; simp [hs])
          have hsz : (a.size : Int) ≤ 65535 := by omega
          rw [heb] at HR
          clear hR
          go_enter Tryd.func48, Tryd.ntmps48
          go_wp2_with (go_at_call 86; refine (HT.out _).mono ?_; rintro e w1 ⟨rfl, rfl⟩)
          go_ret
          exact ⟨by rw [HR.out]; rfl, (Kept.refl No w).alloc _⟩
        · have HR : Hid (R = false) := Lib.hid (by rw [← hR]; unfold rightT; simp [hs])
          have hsz : (65535 : Int) < a.size := by omega
          have hd : decide ((a.size : Int) ≤ 65535) = false := by simp; omega
          clear hR
          go_enter Tryd.func48, Tryd.ntmps48
          go_wp2_with (go_at_call 86; refine (HT.out _).mono ?_; rintro e w1 ⟨rfl, rfl⟩)
          go_ret
          exact ⟨by rw [HR.out]; rfl, (Kept.refl No w).alloc _⟩
      · have HR : Hid (R = false) := Lib.hid (by rw [← hR]; unfold rightT; simp [h0])
        have hz : ((n : Int) == 0) = false := by simp; omega
        clear hR h0
        go_enter Tryd.func48, Tryd.ntmps48
        go_wp2_with (go_at_call 86; refine (HT.out _).mono ?_; rintro e w1 ⟨rfl, rfl⟩)
        go_ret
        exact ⟨by rw [HR.out]; rfl, (Kept.refl No w).alloc _⟩
    · by_cases h0 : n = 0
      · subst h0
        have cO := fun wx => refRight_any a wx ha
        have HP := Lib.hid (fun wx => refRight_any b wx hb)
        rcases hO : okText a with _ | _
        · rw [hO] at cO
          have HO := Lib.hid cO
          have HR : Hid (R = false) := Lib.hid (by rw [← hR]; unfold rightT; simp [hO])
          clear hR cO hO
          go_enter Tryd.func48, Tryd.ntmps48
          go_wp2_with (first
            | (go_at_call 86; refine (HT.out _).mono ?_; rintro e w1 ⟨rfl, rfl⟩)
            | (go_at_call 87; with_reducible refine (HO.out _).mono ?_; rintro e w2 ⟨rfl, rfl⟩))
          go_ret
          exact ⟨by rw [HR.out]; rfl, (Kept.refl No w).alloc _⟩
        · rw [hO] at cO
          have HO := Lib.hid cO
          have HR : Hid (R = okText b) := Lib.hid (by rw [← hR]; unfold rightT; simp [hO])
          clear hR cO hO
          generalize okText b = B at *
          go_enter Tryd.func48, Tryd.ntmps48
          go_wp2_with (first
            | (go_at_call 86; refine (HT.out _).mono ?_; rintro e w1 ⟨rfl, rfl⟩)
            | (go_at_call 87; with_reducible refine (HO.out _).mono ?_; rintro e w2 ⟨rfl, rfl⟩)
            | (go_at_call 87; refine (HP.out _).mono ?_; rintro e w2 ⟨rfl, rfl⟩))
          go_ret
          exact ⟨by rw [HR.out]; rfl, (Kept.refl No w).alloc _⟩
      · have HR : Hid (R = false) := Lib.hid (by rw [← hR]; unfold rightT; simp [h0])
        have hz : ((n : Int) == 0) = false := by simp; omega
        clear hR h0
        go_enter Tryd.func48, Tryd.ntmps48
        go_wp2_with (go_at_call 86; refine (HT.out _).mono ?_; rintro e w1 ⟨rfl, rfl⟩)
        go_ret
        exact ⟨by rw [HR.out]; rfl, (Kept.refl No w).alloc _⟩

end Go.Proofs.YtfhcmmmgnkinoaaDoor
