/-
  Contracts of Value of a property, the program's and the document's: made by mkval.py.
-/
import Derived.Test.YtfhcmmmgnkinoaaDoorPrpRr
import Derived.Test.YtfhcmmmgnkinoaaDoorNmR
namespace Go.Proofs.YtfhcmmmgnkinoaaDoor
open Go.RowKit
set_option linter.unusedVariables false
set_option linter.unusedSimpArgs false

def valueV (id n : Nat) (a : ByteArray) : Bool :=
  if id ∈ [1, 23, 25, 36, 37, 40, 41, 42] then decide (n ≤ 1)
  else if id ∈ [11, 33, 35, 39] then !decide (n = 0)
  else if id = 8 then nameB a
  else true
/-- May a property's value be? -/
def valueB (id n : Nat) (a b : ByteArray) : Bool := rightB id n a b && valueV id n a
theorem dec_le1 (n : Nat) : decide ((n : Int) ≤ 1) = decide (n ≤ 1) := by
  by_cases h : n ≤ 1
  · rw [decide_eq_true h, decide_eq_true (by omega)]
  · rw [decide_eq_false h, decide_eq_false (by omega)]
theorem dec_lt2 (n : Nat) : decide ((n : Int) < 2) = decide (n ≤ 1) := by
  by_cases h : n ≤ 1
  · rw [decide_eq_true h, decide_eq_true (by omega)]
  · rw [decide_eq_false h, decide_eq_false (by omega)]
theorem ne_zero (n : Nat) : ((n : Int) != 0) = !decide (n = 0) := by
  by_cases h : n = 0 <;> simp [h]

set_option maxRecDepth 100000 in
set_option maxHeartbeats 8000000 in
theorem pvalue_any (id n : Nat) (a b : ByteArray) (w : World) (hT : Tabs w) (h8 : id < 256) (hn : n < 4294967296) (ha : a.size ≤ 9223372036854775807) (hb : b.size ≤ 9223372036854775807) :
    Calls Tryd.prog 66 #[.agg #[.int .u8 id, .int .u32 n, .string a, .string b]] w fun e w' => e = .returned (.bool (valueB id n a b)) ∧ Kept No w w' := by
  unfold valueB
  have cR := fun wx hT => pright_any id n a b wx hT h8 hn ha hb
  rcases hR : rightB id n a b with _ | _
  · rw [hR] at cR
    have HR := Lib.hid cR
    rw [Bool.false_and]
    clear cR hR
    go_enter Tryd.func66, Tryd.ntmps66
    go_wp2_with (go_at_call 79; refine (HR.out _ (hT.kept ((Kept.refl No w).alloc _))).mono ?_; rintro e w2 ⟨rfl, hk2⟩)
    go_ret
    exact ⟨rfl, ((Kept.refl No w).alloc _).trans hk2⟩
  rw [hR] at cR
  have HR := Lib.hid cR
  rw [Bool.true_and]
  clear cR hR
  have cN := fun wx hT => name_any a wx ha hT
  generalize hV : valueV id n a = V
  by_cases h1 : id = 1 ∨ id = 23 ∨ id = 25 ∨ id = 36 ∨ id = 37 ∨ id = 40 ∨ id = 41 ∨ id = 42
  · rcases h1 with rfl | rfl | rfl | rfl | rfl | rfl | rfl | rfl
    all_goals
      have HV : Hid (V = decide (n ≤ 1)) := Lib.hid (by rw [← hV]; rfl)
      have HQ := Lib.hid (dec_le1 n)
      clear hV cN
      go_enter Tryd.func66, Tryd.ntmps66
      go_wp2_with (first
        | (go_at_call 79; refine (HR.out _ (hT.kept ((Kept.refl No w).alloc _))).mono ?_; rintro e w2 ⟨rfl, hk2⟩; have hc0 := box_cell hk2 0; have hc1 := box_cell hk2 1; have hc2 := box_cell hk2 2; simp at hc0 hc1 hc2))
      go_ret
      exact ⟨by rw [HV.out, ← HQ.out]; rfl, ((Kept.refl No w).alloc _).trans hk2⟩
  by_cases h2 : id = 11 ∨ id = 33 ∨ id = 35 ∨ id = 39
  · rcases h2 with rfl | rfl | rfl | rfl
    all_goals
      have HV : Hid (V = !decide (n = 0)) := Lib.hid (by rw [← hV]; rfl)
      have HQ := Lib.hid (ne_zero n)
      clear hV cN
      go_enter Tryd.func66, Tryd.ntmps66
      go_wp2_with (first
        | (go_at_call 79; refine (HR.out _ (hT.kept ((Kept.refl No w).alloc _))).mono ?_; rintro e w2 ⟨rfl, hk2⟩; have hc0 := box_cell hk2 0; have hc1 := box_cell hk2 1; have hc2 := box_cell hk2 2; simp at hc0 hc1 hc2))
      go_ret
      exact ⟨by rw [HV.out, ← HQ.out]; rfl, ((Kept.refl No w).alloc _).trans hk2⟩
  by_cases h3 : id = 8
  · subst h3
    have HV : Hid (V = nameB a) := Lib.hid (by rw [← hV]; rfl)
    generalize nameB a = NB at *
    have HN := Lib.hid cN
    clear hV cN
    go_enter Tryd.func66, Tryd.ntmps66
    go_wp2_with (first
      | (go_at_call 79; refine (HR.out _ (hT.kept ((Kept.refl No w).alloc _))).mono ?_; rintro e w2 ⟨rfl, hk2⟩; have hc0 := box_cell hk2 0; have hc1 := box_cell hk2 1; have hc2 := box_cell hk2 2; simp at hc0 hc1 hc2)
      | (go_at_call 100; refine (HN.out _ ((hT.kept ((Kept.refl No w).alloc _)).kept hk2)).mono ?_; rintro e w3 ⟨rfl, hk3⟩))
    go_ret
    exact ⟨by rw [HV.out]; rfl, (((Kept.refl No w).alloc _).trans hk2).trans hk3⟩
  have HV : Hid (V = true) := Lib.hid (by rw [← hV]; unfold valueV; rw [if_neg (by simp; omega), if_neg (by simp; omega), if_neg h3])
  have b1 : ((id : Int) == 1) = false := by simp; omega
  have b23 : ((id : Int) == 23) = false := by simp; omega
  have b25 : ((id : Int) == 25) = false := by simp; omega
  have b36 : ((id : Int) == 36) = false := by simp; omega
  have b37 : ((id : Int) == 37) = false := by simp; omega
  have b40 : ((id : Int) == 40) = false := by simp; omega
  have b41 : ((id : Int) == 41) = false := by simp; omega
  have b42 : ((id : Int) == 42) = false := by simp; omega
  have b11 : ((id : Int) == 11) = false := by simp; omega
  have b33 : ((id : Int) == 33) = false := by simp; omega
  have b35 : ((id : Int) == 35) = false := by simp; omega
  have b39 : ((id : Int) == 39) = false := by simp; omega
  have b8 : ((id : Int) == 8) = false := by simp; omega
  clear hV cN h1 h2 h3
  go_enter Tryd.func66, Tryd.ntmps66
  go_wp2_with (first
    | (go_at_call 79; refine (HR.out _ (hT.kept ((Kept.refl No w).alloc _))).mono ?_; rintro e w2 ⟨rfl, hk2⟩; have hc0 := box_cell hk2 0; have hc1 := box_cell hk2 1; have hc2 := box_cell hk2 2; simp at hc0 hc1 hc2))
  go_ret
  exact ⟨by rw [HV.out]; rfl, ((Kept.refl No w).alloc _).trans hk2⟩

set_option maxRecDepth 100000 in
set_option maxHeartbeats 8000000 in
theorem rvalue_any (id n : Nat) (a b : ByteArray) (w : World) (h8 : id < 256) (hn : n < 4294967296) (ha : a.size ≤ 9223372036854775807) (hb : b.size ≤ 9223372036854775807) :
    Calls Tryd.prog 69 #[.agg #[.int .u8 id, .int .u32 n, .string a, .string b]] w fun e w' => e = .returned (.bool (valueB id n a b)) ∧ Kept No w w' := by
  unfold valueB
  have cR := fun wx => rright_any id n a b wx h8 hn ha hb
  rcases hR : rightB id n a b with _ | _
  · rw [hR] at cR
    have HR := Lib.hid cR
    rw [Bool.false_and]
    clear cR hR
    go_enter Tryd.func69, Tryd.ntmps69
    go_wp2_with (go_at_call 48; refine (HR.out _).mono ?_; rintro e w2 ⟨rfl, hk2⟩)
    go_ret
    exact ⟨rfl, ((Kept.refl No w).alloc _).trans hk2⟩
  rw [hR] at cR
  have HR := Lib.hid cR
  rw [Bool.true_and]
  clear cR hR
  have cN := fun wx => rname_any a wx ha
  generalize hV : valueV id n a = V
  by_cases h1 : id = 1 ∨ id = 23 ∨ id = 25 ∨ id = 36 ∨ id = 37 ∨ id = 40 ∨ id = 41 ∨ id = 42
  · rcases h1 with rfl | rfl | rfl | rfl | rfl | rfl | rfl | rfl
    all_goals
      have HV : Hid (V = decide (n ≤ 1)) := Lib.hid (by rw [← hV]; rfl)
      have HQ := Lib.hid (dec_lt2 n)
      clear hV cN
      go_enter Tryd.func69, Tryd.ntmps69
      go_wp2_with (first
        | (go_at_call 48; refine (HR.out _).mono ?_; rintro e w2 ⟨rfl, hk2⟩; have hc0 := box_cell hk2 0; have hc1 := box_cell hk2 1; have hc2 := box_cell hk2 2; simp at hc0 hc1 hc2))
      go_ret
      exact ⟨by rw [HV.out, ← HQ.out]; rfl, ((Kept.refl No w).alloc _).trans hk2⟩
  by_cases h2 : id = 11 ∨ id = 33 ∨ id = 35 ∨ id = 39
  · rcases h2 with rfl | rfl | rfl | rfl
    all_goals
      have HV : Hid (V = !decide (n = 0)) := Lib.hid (by rw [← hV]; rfl)
      have HQ := Lib.hid (ne_zero n)
      clear hV cN
      go_enter Tryd.func69, Tryd.ntmps69
      go_wp2_with (first
        | (go_at_call 48; refine (HR.out _).mono ?_; rintro e w2 ⟨rfl, hk2⟩; have hc0 := box_cell hk2 0; have hc1 := box_cell hk2 1; have hc2 := box_cell hk2 2; simp at hc0 hc1 hc2))
      go_ret
      exact ⟨by rw [HV.out, ← HQ.out]; rfl, ((Kept.refl No w).alloc _).trans hk2⟩
  by_cases h3 : id = 8
  · subst h3
    have HV : Hid (V = nameB a) := Lib.hid (by rw [← hV]; rfl)
    generalize nameB a = NB at *
    have HN := Lib.hid cN
    clear hV cN
    go_enter Tryd.func69, Tryd.ntmps69
    go_wp2_with (first
      | (go_at_call 48; refine (HR.out _).mono ?_; rintro e w2 ⟨rfl, hk2⟩; have hc0 := box_cell hk2 0; have hc1 := box_cell hk2 1; have hc2 := box_cell hk2 2; simp at hc0 hc1 hc2)
      | (go_at_call 103; refine (HN.out _).mono ?_; rintro e w3 ⟨rfl, hk3⟩))
    go_ret
    exact ⟨by rw [HV.out]; rfl, (((Kept.refl No w).alloc _).trans hk2).trans hk3⟩
  have HV : Hid (V = true) := Lib.hid (by rw [← hV]; unfold valueV; rw [if_neg (by simp; omega), if_neg (by simp; omega), if_neg h3])
  have b1 : ((id : Int) == 1) = false := by simp; omega
  have b23 : ((id : Int) == 23) = false := by simp; omega
  have b25 : ((id : Int) == 25) = false := by simp; omega
  have b36 : ((id : Int) == 36) = false := by simp; omega
  have b37 : ((id : Int) == 37) = false := by simp; omega
  have b40 : ((id : Int) == 40) = false := by simp; omega
  have b41 : ((id : Int) == 41) = false := by simp; omega
  have b42 : ((id : Int) == 42) = false := by simp; omega
  have b11 : ((id : Int) == 11) = false := by simp; omega
  have b33 : ((id : Int) == 33) = false := by simp; omega
  have b35 : ((id : Int) == 35) = false := by simp; omega
  have b39 : ((id : Int) == 39) = false := by simp; omega
  have b8 : ((id : Int) == 8) = false := by simp; omega
  clear hV cN h1 h2 h3
  go_enter Tryd.func69, Tryd.ntmps69
  go_wp2_with (first
    | (go_at_call 48; refine (HR.out _).mono ?_; rintro e w2 ⟨rfl, hk2⟩; have hc0 := box_cell hk2 0; have hc1 := box_cell hk2 1; have hc2 := box_cell hk2 2; simp at hc0 hc1 hc2))
  go_ret
  exact ⟨by rw [HV.out]; rfl, ((Kept.refl No w).alloc _).trans hk2⟩

end Go.Proofs.YtfhcmmmgnkinoaaDoor
