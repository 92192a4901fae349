/-
  props.Sort of at most one property.
-/
import Derived.Test.YtfhcmmmgnkinoaaDoorPxT
namespace Go.Proofs.YtfhcmmmgnkinoaaDoor
open Go.RowKit
set_option linter.unusedVariables false
set_option linter.unusedSimpArgs false
set_option maxRecDepth 100000

theorem ins_small (a : Option Addr) (n c : Nat) (f : Value) (w : World) (h : n ≤ 1) :
    Calls Tryd.prog 118 #[.slice a n c, .int .i64 0, .int .i64 n, f] w fun e w' => e = .returned (.tuple #[]) ∧ Kept No w w' := by
  have hI : decide ((1 : Int) < (n : Int)) = false := by simp; omega
  have hI2 : (n : Int) ≤ 1 := by omega
  go_enter Tryd.func118, Tryd.ntmps118
  go_wp2
  go_loopw [8] (fun i wr => i = .int .i64 1 ∧ Kept No w wr) (fun i _ => 0)
  case atStart => exact ⟨rfl, Kept.refl _ _⟩
  case round =>
    obtain ⟨rfl, hk⟩ := hrel
    go_wp2
    first | go_end0 | go_ret
    exact ⟨rfl, hk⟩
theorem stable_small (a : Option Addr) (n c : Nat) (f : Value) (w : World) (h : n ≤ 1) :
    Calls Tryd.prog 98 #[.slice a n c, .int .i64 n, f] w fun e w' => e = .returned (.tuple #[]) ∧ Kept No w w' := by
  have hI : decide ((20 : Int) ≤ (n : Int)) = false := by simp; omega
  have hI2 : decide ((20 : Int) < (n : Int)) = false := by simp; omega
  have H := Lib.hid (fun wx => ins_small a n c f wx h)
  go_enter Tryd.func98, Tryd.ntmps98
  go_wp2
  go_loopw [7, 8] (fun x y wr => x = .int .i64 0 ∧ y = .int .i64 20 ∧ Kept No w wr) (fun _ _ _ => 0)
  case atStart => exact ⟨rfl, rfl, Kept.refl _ _⟩
  case round =>
    obtain ⟨rfl, rfl, hk⟩ := hrel
    go_wp2_with (go_at_call 118; refine (H.out _).mono ?_; rintro e w2 ⟨rfl, hk2⟩)
    go_loopw [6, 7, 8] (fun z x y wr9 => z = .int .i64 20 ∧ Kept No w wr9) (fun _ _ _ _ => 0)
    case atStart => exact ⟨rfl, hk.trans hk2⟩
    case round =>
      obtain ⟨rfl, hk3⟩ := hrel
      go_wp2
      first | go_end0 | go_ret
      exact ⟨rfl, hk3⟩
theorem sortL_small (X : List Pr) (h : X.length ≤ 1) : sortL X = X := by
  cases X with
  | nil => simp [sortL]
  | cons p t =>
    cases t with
    | nil => simp [sortL]
    | cons q t => simp at h
theorem sort_small (X : List Pr) (h : X.length ≤ 1) : SortAt X := by
  intro a c w hr hn
  have cC := Lib.hid (pclone_any a c X w hr hn (by omega))
  have HS := Lib.hid (fun (a1 : Option Addr) (c1 : Nat) (f : Value) (wx : World) => stable_small a1 X.length c1 f wx h)
  have hSX : sortL X = X := sortL_small X h
  have cF : ∀ (a1 : Option Addr) (c1 : Nat) (f : Value) (wx : World), Calls Tryd.prog 63 #[.slice a1 X.length c1, f] wx fun e w' => e = .returned (.tuple #[]) ∧ Kept No wx w' := by
    intro a1 c1 f wx
    go_enter Tryd.func63, Tryd.ntmps63
    go_wp2_with (go_at_call 98; refine (HS.out _ _ _ _).mono ?_; rintro e w2 ⟨rfl, hk2⟩)
    first | go_end0 | go_ret
    exact ⟨rfl, hk2⟩
  have HF := Lib.hid cF
  rw [hSX]
  clear HS cF
  go_enter Tryd.func29, Tryd.ntmps29
  go_wp2_with (first
    | (go_at_call 62; refine cC.out.mono ?_; rintro e w1 ⟨a1, c1, rfl, hown, hk1⟩)
    | (go_at_call 63; refine (HF.out _ _ _ _).mono ?_; rintro e w2 ⟨rfl, hk2⟩))
  go_ret
  exact ⟨a1, c1, rfl, own_keptNo hown hk2, hk1.trans hk2⟩

end Go.Proofs.YtfhcmmmgnkinoaaDoor
