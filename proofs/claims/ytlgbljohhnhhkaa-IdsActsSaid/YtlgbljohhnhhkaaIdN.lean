/-
  The document's Turn: made by mkidm.py.
-/
import Derived.Test.YtlgbljohhnhhkaaIdM
namespace Go.Proofs.Ytlgbljohhnhhkaa
open Go.RowKit
set_option linter.unusedVariables false
set_option linter.unusedSimpArgs false
set_option maxRecDepth 100000

set_option maxHeartbeats 4000000 in
theorem rturn_4 (a : Option Addr) (c : Nat) (L : List Rw) (i : Nat) (f : Bool) (n : Int) (w : World) (ht : Tb w a c L) (hR : rightGo 0 L = true) (hl : L.length ≤ 1000) :
    Calls Try.prog 15 #[.slice a L.length c, .int .i64 4, .int .u16 i, .bool f, .int .i64 n] w (TabIs (turnR L 4 i f n) w) := by
  have HOF := Lib.hid (fun wx h => rof_any a c L i wx h (by omega))
  cases hu : ofL L i with
  | none =>
    have HN := Lib.hid (turn_no (f := f) (n := n) (k := 4) (by decide) hu rfl)
    rw [hu] at HOF
    generalize turnR L 4 i f n = R at *
    have HO := Lib.hid (show ∀ wx, Row wx a (RC L) → Calls Try.prog 19 #[.slice a L.length c, .int .u16 i] wx (fun e w' => e = .returned (.agg #[.int .u16 0, .int .i64 0, .int .i64 0]) ∧ Kept No wx w') from HOF.out)
    clear hR HOF hu
    go_enter Try.func15, Try.ntmps15
    go_wp2_with (go_at_call 19; refine (HO.out _ ht.row).mono ?_; rintro e w3 ⟨rfl, hk3⟩)
    go_ret2
    exact tabIs_of HN.out (ht.keptNo (hk3.alloc _)) (hk3.alloc _)
  | some r =>
    have hri := ofL_id hu
    have hpos := (asc_of hR).above r hri.2
    have hfit := fits_all hR r hri.2
    have HNY := Lib.hid (fun h => turn_no (f := f) (n := n) (k := 4) (by decide) hu h)
    have HYE := Lib.hid (fun h => turn_yes (f := f) (n := n) (k := 4) (by decide) hu h)
    rw [hu] at HOF
    obtain ⟨id, st, rn⟩ := r
    obtain ⟨hri1, _⟩ := hri
    obtain rfl : id = i := hri1
    have hok : okAt (some ⟨id, st, rn⟩) 4 n = (decide (st = 1) && (!false || decide (rn = n))) := rfl
    rw [hok] at HNY HYE
    have cW := fun wx (x : Rw) (h : Row wx a (RC L)) => (rwith_any a c L id x wx h (by omega)).mono (fun e w' h9 => put_tb (x := x) hR h9)
    have HO := Lib.hid (show ∀ wx, Row wx a (RC L) → Calls Try.prog 19 #[.slice a L.length c, .int .u16 id] wx (fun e w' => e = .returned (.agg #[.int .u16 id, .int .i64 st, .int .i64 rn]) ∧ Kept No wx w') from HOF.out)
    have h0I : ((id : Int) == 0) = false := by simp only [beq_eq_false_iff_ne, ne_eq]; have : 0 < id := hpos; omega
    generalize turnR L 4 id f n = R at *
    have HW0 := Lib.hid (fun wx => cW wx ⟨0, 0, 0⟩)
    have HYE2 := Lib.hid (fun h => (show R = (putR L id none, 0) from HYE.out h))
    have HW1 := Lib.hid (show ∀ wx, Row wx a (RC L) → Calls Try.prog 26 #[.slice a L.length c, .int .u16 id, .agg #[.int .u16 0, .int .i64 0, .int .i64 0]] wx (PutIs (putR L id none) wx) from HW0.out)
    generalize putR L id none = M at *
    clear HOF HYE HW0 cW hR hok hu hpos hfit
    by_cases hs : st = 1
    case neg =>
      have hsI : (st != 1) = true := by simpa using hs
      have HN := Lib.hid (HNY.out (by simp [hs]))
      clear hs
      clear HNY HYE2 HW1
      go_enter Try.func15, Try.ntmps15
      go_wp2_with (go_at_call 19; refine (HO.out _ ht.row).mono ?_; rintro e w3 ⟨rfl, hk3⟩)
      go_ret2
      exact tabIs_of HN.out (ht.keptNo (hk3.alloc _)) (hk3.alloc _)
    subst hs
    have HN := Lib.hid (HYE2.out (by simp))
    clear HNY HYE2
    go_enter Try.func15, Try.ntmps15
    go_wp2_with (first
      | (go_at_call 19; refine (HO.out _ ht.row).mono ?_; rintro e w3 ⟨rfl, hk3⟩)
      | (go_at_call 26; refine (HW1.out _ (ht.row.keptNo (hk3.alloc _))).mono ?_; rintro e w4 ⟨a4, c4, rfl, ht4, hk4⟩))
    go_ret2
    exact tabIs_of HN.out ht4 ((hk3.alloc _).trans hk4)

set_option maxHeartbeats 4000000 in
theorem rturn_5true (a : Option Addr) (c : Nat) (L : List Rw) (i : Nat) (n : Int) (w : World) (ht : Tb w a c L) (hR : rightGo 0 L = true) (hl : L.length ≤ 1000) :
    Calls Try.prog 15 #[.slice a L.length c, .int .i64 5, .int .u16 i, .bool true, .int .i64 n] w (TabIs (turnR L 5 i true n) w) := by
  have HOF := Lib.hid (fun wx h => rof_any a c L i wx h (by omega))
  cases hu : ofL L i with
  | none =>
    have HN := Lib.hid (turn_no (f := true) (n := n) (k := 5) (by decide) hu rfl)
    rw [hu] at HOF
    generalize turnR L 5 i true n = R at *
    have HO := Lib.hid (show ∀ wx, Row wx a (RC L) → Calls Try.prog 19 #[.slice a L.length c, .int .u16 i] wx (fun e w' => e = .returned (.agg #[.int .u16 0, .int .i64 0, .int .i64 0]) ∧ Kept No wx w') from HOF.out)
    clear hR HOF hu
    go_enter Try.func15, Try.ntmps15
    go_wp2_with (go_at_call 19; refine (HO.out _ ht.row).mono ?_; rintro e w3 ⟨rfl, hk3⟩)
    go_ret2
    exact tabIs_of HN.out (ht.keptNo (hk3.alloc _)) (hk3.alloc _)
  | some r =>
    have hri := ofL_id hu
    have hpos := (asc_of hR).above r hri.2
    have hfit := fits_all hR r hri.2
    have HNY := Lib.hid (fun h => turn_no (f := true) (n := n) (k := 5) (by decide) hu h)
    have HYE := Lib.hid (fun h => turn_yes (f := true) (n := n) (k := 5) (by decide) hu h)
    rw [hu] at HOF
    obtain ⟨id, st, rn⟩ := r
    obtain ⟨hri1, _⟩ := hri
    obtain rfl : id = i := hri1
    have hok : okAt (some ⟨id, st, rn⟩) 5 n = (decide (st = 2) && (!false || decide (rn = n))) := rfl
    rw [hok] at HNY HYE
    have cW := fun wx (x : Rw) (h : Row wx a (RC L)) => (rwith_any a c L id x wx h (by omega)).mono (fun e w' h9 => put_tb (x := x) hR h9)
    have HO := Lib.hid (show ∀ wx, Row wx a (RC L) → Calls Try.prog 19 #[.slice a L.length c, .int .u16 id] wx (fun e w' => e = .returned (.agg #[.int .u16 id, .int .i64 st, .int .i64 rn]) ∧ Kept No wx w') from HOF.out)
    have h0I : ((id : Int) == 0) = false := by simp only [beq_eq_false_iff_ne, ne_eq]; have : 0 < id := hpos; omega
    generalize turnR L 5 id true n = R at *
    have HW0 := Lib.hid (fun wx => cW wx ⟨0, 0, 0⟩)
    have HYE2 := Lib.hid (fun h => (show R = (putR L id none, 0) from HYE.out h))
    have HW1 := Lib.hid (show ∀ wx, Row wx a (RC L) → Calls Try.prog 26 #[.slice a L.length c, .int .u16 id, .agg #[.int .u16 0, .int .i64 0, .int .i64 0]] wx (PutIs (putR L id none) wx) from HW0.out)
    generalize putR L id none = M at *
    clear HOF HYE HW0 cW hR hok hu hpos hfit
    by_cases hs : st = 2
    case neg =>
      have hsI : (st != 2) = true := by simpa using hs
      have HN := Lib.hid (HNY.out (by simp [hs]))
      clear hs
      clear HNY HYE2 HW1
      go_enter Try.func15, Try.ntmps15
      go_wp2_with (go_at_call 19; refine (HO.out _ ht.row).mono ?_; rintro e w3 ⟨rfl, hk3⟩)
      go_ret2
      exact tabIs_of HN.out (ht.keptNo (hk3.alloc _)) (hk3.alloc _)
    subst hs
    have HN := Lib.hid (HYE2.out (by simp))
    clear HNY HYE2
    go_enter Try.func15, Try.ntmps15
    go_wp2_with (first
      | (go_at_call 19; refine (HO.out _ ht.row).mono ?_; rintro e w3 ⟨rfl, hk3⟩)
      | (go_at_call 26; refine (HW1.out _ (ht.row.keptNo (hk3.alloc _))).mono ?_; rintro e w4 ⟨a4, c4, rfl, ht4, hk4⟩))
    go_ret2
    exact tabIs_of HN.out ht4 ((hk3.alloc _).trans hk4)

set_option maxHeartbeats 4000000 in
theorem rturn_5false (a : Option Addr) (c : Nat) (L : List Rw) (i : Nat) (n : Int) (w : World) (ht : Tb w a c L) (hR : rightGo 0 L = true) (hl : L.length ≤ 1000) :
    Calls Try.prog 15 #[.slice a L.length c, .int .i64 5, .int .u16 i, .bool false, .int .i64 n] w (TabIs (turnR L 5 i false n) w) := by
  have HOF := Lib.hid (fun wx h => rof_any a c L i wx h (by omega))
  cases hu : ofL L i with
  | none =>
    have HN := Lib.hid (turn_no (f := false) (n := n) (k := 5) (by decide) hu rfl)
    rw [hu] at HOF
    generalize turnR L 5 i false n = R at *
    have HO := Lib.hid (show ∀ wx, Row wx a (RC L) → Calls Try.prog 19 #[.slice a L.length c, .int .u16 i] wx (fun e w' => e = .returned (.agg #[.int .u16 0, .int .i64 0, .int .i64 0]) ∧ Kept No wx w') from HOF.out)
    clear hR HOF hu
    go_enter Try.func15, Try.ntmps15
    go_wp2_with (go_at_call 19; refine (HO.out _ ht.row).mono ?_; rintro e w3 ⟨rfl, hk3⟩)
    go_ret2
    exact tabIs_of HN.out (ht.keptNo (hk3.alloc _)) (hk3.alloc _)
  | some r =>
    have hri := ofL_id hu
    have hpos := (asc_of hR).above r hri.2
    have hfit := fits_all hR r hri.2
    have HNY := Lib.hid (fun h => turn_no (f := false) (n := n) (k := 5) (by decide) hu h)
    have HYE := Lib.hid (fun h => turn_yes (f := false) (n := n) (k := 5) (by decide) hu h)
    rw [hu] at HOF
    obtain ⟨id, st, rn⟩ := r
    obtain ⟨hri1, _⟩ := hri
    obtain rfl : id = i := hri1
    have hok : okAt (some ⟨id, st, rn⟩) 5 n = (decide (st = 2) && (!false || decide (rn = n))) := rfl
    rw [hok] at HNY HYE
    have cW := fun wx (x : Rw) (h : Row wx a (RC L)) => (rwith_any a c L id x wx h (by omega)).mono (fun e w' h9 => put_tb (x := x) hR h9)
    have HO := Lib.hid (show ∀ wx, Row wx a (RC L) → Calls Try.prog 19 #[.slice a L.length c, .int .u16 id] wx (fun e w' => e = .returned (.agg #[.int .u16 id, .int .i64 st, .int .i64 rn]) ∧ Kept No wx w') from HOF.out)
    have h0I : ((id : Int) == 0) = false := by simp only [beq_eq_false_iff_ne, ne_eq]; have : 0 < id := hpos; omega
    generalize turnR L 5 id false n = R at *
    have HW0 := Lib.hid (fun wx => cW wx ⟨id, 3, 0⟩)
    have HYE2 := Lib.hid (fun h => (show R = (putR L id (some ⟨id, 3, 0⟩), 0) from HYE.out h))
    have hw9 : (if (⟨id, 3, 0⟩ : Rw).id = 0 then none else some (⟨id, 3, 0⟩ : Rw)) = some ⟨id, 3, 0⟩ := if_neg (by have : 0 < id := hpos; show ¬ id = 0; omega)
    have HW1 := Lib.hid (show ∀ wx, Row wx a (RC L) → Calls Try.prog 26 #[.slice a L.length c, .int .u16 id, .agg #[.int .u16 id, .int .i64 3, .int .i64 0]] wx (PutIs (putR L id (some ⟨id, 3, 0⟩)) wx) from by have h8 := HW0.out; rw [hw9] at h8; exact h8)
    clear hw9
    generalize putR L id (some ⟨id, 3, 0⟩) = M at *
    clear HOF HYE HW0 cW hR hok hu hpos hfit
    by_cases hs : st = 2
    case neg =>
      have hsI : (st != 2) = true := by simpa using hs
      have HN := Lib.hid (HNY.out (by simp [hs]))
      clear hs
      clear HNY HYE2 HW1
      go_enter Try.func15, Try.ntmps15
      go_wp2_with (go_at_call 19; refine (HO.out _ ht.row).mono ?_; rintro e w3 ⟨rfl, hk3⟩)
      go_ret2
      exact tabIs_of HN.out (ht.keptNo (hk3.alloc _)) (hk3.alloc _)
    subst hs
    have HN := Lib.hid (HYE2.out (by simp))
    clear HNY HYE2
    go_enter Try.func15, Try.ntmps15
    go_wp2_with (first
      | (go_at_call 19; refine (HO.out _ ht.row).mono ?_; rintro e w3 ⟨rfl, hk3⟩)
      | (go_at_call 26; refine (HW1.out _ (ht.row.keptNo (hk3.alloc _))).mono ?_; rintro e w4 ⟨a4, c4, rfl, ht4, hk4⟩))
    go_ret2
    exact tabIs_of HN.out ht4 ((hk3.alloc _).trans hk4)

set_option maxHeartbeats 4000000 in
theorem rturn_6 (a : Option Addr) (c : Nat) (L : List Rw) (i : Nat) (f : Bool) (n : Int) (w : World) (ht : Tb w a c L) (hR : rightGo 0 L = true) (hl : L.length ≤ 1000) :
    Calls Try.prog 15 #[.slice a L.length c, .int .i64 6, .int .u16 i, .bool f, .int .i64 n] w (TabIs (turnR L 6 i f n) w) := by
  have HOF := Lib.hid (fun wx h => rof_any a c L i wx h (by omega))
  cases hu : ofL L i with
  | none =>
    have HN := Lib.hid (turn_no (f := f) (n := n) (k := 6) (by decide) hu rfl)
    rw [hu] at HOF
    generalize turnR L 6 i f n = R at *
    have HO := Lib.hid (show ∀ wx, Row wx a (RC L) → Calls Try.prog 19 #[.slice a L.length c, .int .u16 i] wx (fun e w' => e = .returned (.agg #[.int .u16 0, .int .i64 0, .int .i64 0]) ∧ Kept No wx w') from HOF.out)
    clear hR HOF hu
    go_enter Try.func15, Try.ntmps15
    go_wp2_with (go_at_call 19; refine (HO.out _ ht.row).mono ?_; rintro e w3 ⟨rfl, hk3⟩)
    go_ret2
    exact tabIs_of HN.out (ht.keptNo (hk3.alloc _)) (hk3.alloc _)
  | some r =>
    have hri := ofL_id hu
    have hpos := (asc_of hR).above r hri.2
    have hfit := fits_all hR r hri.2
    have HNY := Lib.hid (fun h => turn_no (f := f) (n := n) (k := 6) (by decide) hu h)
    have HYE := Lib.hid (fun h => turn_yes (f := f) (n := n) (k := 6) (by decide) hu h)
    rw [hu] at HOF
    obtain ⟨id, st, rn⟩ := r
    obtain ⟨hri1, _⟩ := hri
    obtain rfl : id = i := hri1
    have hok : okAt (some ⟨id, st, rn⟩) 6 n = (decide (st = 3) && (!false || decide (rn = n))) := rfl
    rw [hok] at HNY HYE
    have cW := fun wx (x : Rw) (h : Row wx a (RC L)) => (rwith_any a c L id x wx h (by omega)).mono (fun e w' h9 => put_tb (x := x) hR h9)
    have HO := Lib.hid (show ∀ wx, Row wx a (RC L) → Calls Try.prog 19 #[.slice a L.length c, .int .u16 id] wx (fun e w' => e = .returned (.agg #[.int .u16 id, .int .i64 st, .int .i64 rn]) ∧ Kept No wx w') from HOF.out)
    have h0I : ((id : Int) == 0) = false := by simp only [beq_eq_false_iff_ne, ne_eq]; have : 0 < id := hpos; omega
    generalize turnR L 6 id f n = R at *
    have HW0 := Lib.hid (fun wx => cW wx ⟨id, 4, 0⟩)
    have HYE2 := Lib.hid (fun h => (show R = (putR L id (some ⟨id, 4, 0⟩), 0) from HYE.out h))
    have hw9 : (if (⟨id, 4, 0⟩ : Rw).id = 0 then none else some (⟨id, 4, 0⟩ : Rw)) = some ⟨id, 4, 0⟩ := if_neg (by have : 0 < id := hpos; show ¬ id = 0; omega)
    have HW1 := Lib.hid (show ∀ wx, Row wx a (RC L) → Calls Try.prog 26 #[.slice a L.length c, .int .u16 id, .agg #[.int .u16 id, .int .i64 4, .int .i64 0]] wx (PutIs (putR L id (some ⟨id, 4, 0⟩)) wx) from by have h8 := HW0.out; rw [hw9] at h8; exact h8)
    clear hw9
    generalize putR L id (some ⟨id, 4, 0⟩) = M at *
    clear HOF HYE HW0 cW hR hok hu hpos hfit
    by_cases hs : st = 3
    case neg =>
      have hsI : (st != 3) = true := by simpa using hs
      have HN := Lib.hid (HNY.out (by simp [hs]))
      clear hs
      clear HNY HYE2 HW1
      go_enter Try.func15, Try.ntmps15
      go_wp2_with (go_at_call 19; refine (HO.out _ ht.row).mono ?_; rintro e w3 ⟨rfl, hk3⟩)
      go_ret2
      exact tabIs_of HN.out (ht.keptNo (hk3.alloc _)) (hk3.alloc _)
    subst hs
    have HN := Lib.hid (HYE2.out (by simp))
    clear HNY HYE2
    go_enter Try.func15, Try.ntmps15
    go_wp2_with (first
      | (go_at_call 19; refine (HO.out _ ht.row).mono ?_; rintro e w3 ⟨rfl, hk3⟩)
      | (go_at_call 26; refine (HW1.out _ (ht.row.keptNo (hk3.alloc _))).mono ?_; rintro e w4 ⟨a4, c4, rfl, ht4, hk4⟩))
    go_ret2
    exact tabIs_of HN.out ht4 ((hk3.alloc _).trans hk4)

set_option maxHeartbeats 4000000 in
theorem rturn_7 (a : Option Addr) (c : Nat) (L : List Rw) (i : Nat) (f : Bool) (n : Int) (w : World) (ht : Tb w a c L) (hR : rightGo 0 L = true) (hl : L.length ≤ 1000) :
    Calls Try.prog 15 #[.slice a L.length c, .int .i64 7, .int .u16 i, .bool f, .int .i64 n] w (TabIs (turnR L 7 i f n) w) := by
  have HOF := Lib.hid (fun wx h => rof_any a c L i wx h (by omega))
  cases hu : ofL L i with
  | none =>
    have HN := Lib.hid (turn_no (f := f) (n := n) (k := 7) (by decide) hu rfl)
    rw [hu] at HOF
    generalize turnR L 7 i f n = R at *
    have HO := Lib.hid (show ∀ wx, Row wx a (RC L) → Calls Try.prog 19 #[.slice a L.length c, .int .u16 i] wx (fun e w' => e = .returned (.agg #[.int .u16 0, .int .i64 0, .int .i64 0]) ∧ Kept No wx w') from HOF.out)
    clear hR HOF hu
    go_enter Try.func15, Try.ntmps15
    go_wp2_with (go_at_call 19; refine (HO.out _ ht.row).mono ?_; rintro e w3 ⟨rfl, hk3⟩)
    go_ret2
    exact tabIs_of HN.out (ht.keptNo (hk3.alloc _)) (hk3.alloc _)
  | some r =>
    have hri := ofL_id hu
    have hpos := (asc_of hR).above r hri.2
    have hfit := fits_all hR r hri.2
    have HNY := Lib.hid (fun h => turn_no (f := f) (n := n) (k := 7) (by decide) hu h)
    have HYE := Lib.hid (fun h => turn_yes (f := f) (n := n) (k := 7) (by decide) hu h)
    rw [hu] at HOF
    obtain ⟨id, st, rn⟩ := r
    obtain ⟨hri1, _⟩ := hri
    obtain rfl : id = i := hri1
    have hok : okAt (some ⟨id, st, rn⟩) 7 n = (decide (st = 4) && (!false || decide (rn = n))) := rfl
    rw [hok] at HNY HYE
    have cW := fun wx (x : Rw) (h : Row wx a (RC L)) => (rwith_any a c L id x wx h (by omega)).mono (fun e w' h9 => put_tb (x := x) hR h9)
    have HO := Lib.hid (show ∀ wx, Row wx a (RC L) → Calls Try.prog 19 #[.slice a L.length c, .int .u16 id] wx (fun e w' => e = .returned (.agg #[.int .u16 id, .int .i64 st, .int .i64 rn]) ∧ Kept No wx w') from HOF.out)
    have h0I : ((id : Int) == 0) = false := by simp only [beq_eq_false_iff_ne, ne_eq]; have : 0 < id := hpos; omega
    generalize turnR L 7 id f n = R at *
    have HW0 := Lib.hid (fun wx => cW wx ⟨0, 0, 0⟩)
    have HYE2 := Lib.hid (fun h => (show R = (putR L id none, 0) from HYE.out h))
    have HW1 := Lib.hid (show ∀ wx, Row wx a (RC L) → Calls Try.prog 26 #[.slice a L.length c, .int .u16 id, .agg #[.int .u16 0, .int .i64 0, .int .i64 0]] wx (PutIs (putR L id none) wx) from HW0.out)
    generalize putR L id none = M at *
    clear HOF HYE HW0 cW hR hok hu hpos hfit
    by_cases hs : st = 4
    case neg =>
      have hsI : (st != 4) = true := by simpa using hs
      have HN := Lib.hid (HNY.out (by simp [hs]))
      clear hs
      clear HNY HYE2 HW1
      go_enter Try.func15, Try.ntmps15
      go_wp2_with (go_at_call 19; refine (HO.out _ ht.row).mono ?_; rintro e w3 ⟨rfl, hk3⟩)
      go_ret2
      exact tabIs_of HN.out (ht.keptNo (hk3.alloc _)) (hk3.alloc _)
    subst hs
    have HN := Lib.hid (HYE2.out (by simp))
    clear HNY HYE2
    go_enter Try.func15, Try.ntmps15
    go_wp2_with (first
      | (go_at_call 19; refine (HO.out _ ht.row).mono ?_; rintro e w3 ⟨rfl, hk3⟩)
      | (go_at_call 26; refine (HW1.out _ (ht.row.keptNo (hk3.alloc _))).mono ?_; rintro e w4 ⟨a4, c4, rfl, ht4, hk4⟩))
    go_ret2
    exact tabIs_of HN.out ht4 ((hk3.alloc _).trans hk4)

set_option maxHeartbeats 4000000 in
theorem rturn_9 (a : Option Addr) (c : Nat) (L : List Rw) (i : Nat) (f : Bool) (n : Int) (w : World) (ht : Tb w a c L) (hR : rightGo 0 L = true) (hl : L.length ≤ 1000) :
    Calls Try.prog 15 #[.slice a L.length c, .int .i64 9, .int .u16 i, .bool f, .int .i64 n] w (TabIs (turnR L 9 i f n) w) := by
  have HOF := Lib.hid (fun wx h => rof_any a c L i wx h (by omega))
  cases hu : ofL L i with
  | none =>
    have HN := Lib.hid (turn_no (f := f) (n := n) (k := 9) (by decide) hu rfl)
    rw [hu] at HOF
    generalize turnR L 9 i f n = R at *
    have HO := Lib.hid (show ∀ wx, Row wx a (RC L) → Calls Try.prog 19 #[.slice a L.length c, .int .u16 i] wx (fun e w' => e = .returned (.agg #[.int .u16 0, .int .i64 0, .int .i64 0]) ∧ Kept No wx w') from HOF.out)
    clear hR HOF hu
    go_enter Try.func15, Try.ntmps15
    go_wp2_with (go_at_call 19; refine (HO.out _ ht.row).mono ?_; rintro e w3 ⟨rfl, hk3⟩)
    go_ret2
    exact tabIs_of HN.out (ht.keptNo (hk3.alloc _)) (hk3.alloc _)
  | some r =>
    have hri := ofL_id hu
    have hpos := (asc_of hR).above r hri.2
    have hfit := fits_all hR r hri.2
    have HNY := Lib.hid (fun h => turn_no (f := f) (n := n) (k := 9) (by decide) hu h)
    have HYE := Lib.hid (fun h => turn_yes (f := f) (n := n) (k := 9) (by decide) hu h)
    rw [hu] at HOF
    obtain ⟨id, st, rn⟩ := r
    obtain ⟨hri1, _⟩ := hri
    obtain rfl : id = i := hri1
    have hok : okAt (some ⟨id, st, rn⟩) 9 n = (decide (st = 5) && (!true || decide (rn = n))) := rfl
    rw [hok] at HNY HYE
    have cW := fun wx (x : Rw) (h : Row wx a (RC L)) => (rwith_any a c L id x wx h (by omega)).mono (fun e w' h9 => put_tb (x := x) hR h9)
    have HO := Lib.hid (show ∀ wx, Row wx a (RC L) → Calls Try.prog 19 #[.slice a L.length c, .int .u16 id] wx (fun e w' => e = .returned (.agg #[.int .u16 id, .int .i64 st, .int .i64 rn]) ∧ Kept No wx w') from HOF.out)
    have h0I : ((id : Int) == 0) = false := by simp only [beq_eq_false_iff_ne, ne_eq]; have : 0 < id := hpos; omega
    generalize turnR L 9 id f n = R at *
    have HW0 := Lib.hid (fun wx => cW wx ⟨0, 0, 0⟩)
    have HYE2 := Lib.hid (fun h => (show R = (putR L id none, 0) from HYE.out h))
    have HW1 := Lib.hid (show ∀ wx, Row wx a (RC L) → Calls Try.prog 26 #[.slice a L.length c, .int .u16 id, .agg #[.int .u16 0, .int .i64 0, .int .i64 0]] wx (PutIs (putR L id none) wx) from HW0.out)
    generalize putR L id none = M at *
    clear HOF HYE HW0 cW hR hok hu hpos hfit
    by_cases hs : st = 5
    case neg =>
      have hsI : (st != 5) = true := by simpa using hs
      have HN := Lib.hid (HNY.out (by simp [hs]))
      clear hs
      clear HNY HYE2 HW1
      go_enter Try.func15, Try.ntmps15
      go_wp2_with (go_at_call 19; refine (HO.out _ ht.row).mono ?_; rintro e w3 ⟨rfl, hk3⟩)
      go_ret2
      exact tabIs_of HN.out (ht.keptNo (hk3.alloc _)) (hk3.alloc _)
    subst hs
    by_cases hn : rn = n
    case neg =>
      have hnI : (rn != n) = true := by simpa using hn
      have HN := Lib.hid (HNY.out (by simp [hn]))
      clear hn
      clear HNY HYE2 HW1
      go_enter Try.func15, Try.ntmps15
      go_wp2_with (go_at_call 19; refine (HO.out _ ht.row).mono ?_; rintro e w3 ⟨rfl, hk3⟩)
      go_ret2
      exact tabIs_of HN.out (ht.keptNo (hk3.alloc _)) (hk3.alloc _)
    subst hn
    have HN := Lib.hid (HYE2.out (by simp))
    clear HNY HYE2
    go_enter Try.func15, Try.ntmps15
    go_wp2_with (first
      | (go_at_call 19; refine (HO.out _ ht.row).mono ?_; rintro e w3 ⟨rfl, hk3⟩)
      | (go_at_call 26; refine (HW1.out _ (ht.row.keptNo (hk3.alloc _))).mono ?_; rintro e w4 ⟨a4, c4, rfl, ht4, hk4⟩))
    go_ret2
    exact tabIs_of HN.out ht4 ((hk3.alloc _).trans hk4)

set_option maxHeartbeats 4000000 in
theorem rturn_11 (a : Option Addr) (c : Nat) (L : List Rw) (i : Nat) (f : Bool) (n : Int) (w : World) (ht : Tb w a c L) (hR : rightGo 0 L = true) (hl : L.length ≤ 1000) :
    Calls Try.prog 15 #[.slice a L.length c, .int .i64 11, .int .u16 i, .bool f, .int .i64 n] w (TabIs (turnR L 11 i f n) w) := by
  have HOF := Lib.hid (fun wx h => rof_any a c L i wx h (by omega))
  cases hu : ofL L i with
  | none =>
    have HN := Lib.hid (turn_no (f := f) (n := n) (k := 11) (by decide) hu rfl)
    rw [hu] at HOF
    generalize turnR L 11 i f n = R at *
    have HO := Lib.hid (show ∀ wx, Row wx a (RC L) → Calls Try.prog 19 #[.slice a L.length c, .int .u16 i] wx (fun e w' => e = .returned (.agg #[.int .u16 0, .int .i64 0, .int .i64 0]) ∧ Kept No wx w') from HOF.out)
    clear hR HOF hu
    go_enter Try.func15, Try.ntmps15
    go_wp2_with (go_at_call 19; refine (HO.out _ ht.row).mono ?_; rintro e w3 ⟨rfl, hk3⟩)
    go_ret2
    exact tabIs_of HN.out (ht.keptNo (hk3.alloc _)) (hk3.alloc _)
  | some r =>
    have hri := ofL_id hu
    have hpos := (asc_of hR).above r hri.2
    have hfit := fits_all hR r hri.2
    have HNY := Lib.hid (fun h => turn_no (f := f) (n := n) (k := 11) (by decide) hu h)
    have HYE := Lib.hid (fun h => turn_yes (f := f) (n := n) (k := 11) (by decide) hu h)
    rw [hu] at HOF
    obtain ⟨id, st, rn⟩ := r
    obtain ⟨hri1, _⟩ := hri
    obtain rfl : id = i := hri1
    have hok : okAt (some ⟨id, st, rn⟩) 11 n = (decide (st = 6) && (!true || decide (rn = n))) := rfl
    rw [hok] at HNY HYE
    have cW := fun wx (x : Rw) (h : Row wx a (RC L)) => (rwith_any a c L id x wx h (by omega)).mono (fun e w' h9 => put_tb (x := x) hR h9)
    have HO := Lib.hid (show ∀ wx, Row wx a (RC L) → Calls Try.prog 19 #[.slice a L.length c, .int .u16 id] wx (fun e w' => e = .returned (.agg #[.int .u16 id, .int .i64 st, .int .i64 rn]) ∧ Kept No wx w') from HOF.out)
    have h0I : ((id : Int) == 0) = false := by simp only [beq_eq_false_iff_ne, ne_eq]; have : 0 < id := hpos; omega
    generalize turnR L 11 id f n = R at *
    have HW0 := Lib.hid (fun wx => cW wx ⟨0, 0, 0⟩)
    have HYE2 := Lib.hid (fun h => (show R = (putR L id none, 0) from HYE.out h))
    have HW1 := Lib.hid (show ∀ wx, Row wx a (RC L) → Calls Try.prog 26 #[.slice a L.length c, .int .u16 id, .agg #[.int .u16 0, .int .i64 0, .int .i64 0]] wx (PutIs (putR L id none) wx) from HW0.out)
    generalize putR L id none = M at *
    clear HOF HYE HW0 cW hR hok hu hpos hfit
    by_cases hs : st = 6
    case neg =>
      have hsI : (st != 6) = true := by simpa using hs
      have HN := Lib.hid (HNY.out (by simp [hs]))
      clear hs
      clear HNY HYE2 HW1
      go_enter Try.func15, Try.ntmps15
      go_wp2_with (go_at_call 19; refine (HO.out _ ht.row).mono ?_; rintro e w3 ⟨rfl, hk3⟩)
      go_ret2
      exact tabIs_of HN.out (ht.keptNo (hk3.alloc _)) (hk3.alloc _)
    subst hs
    by_cases hn : rn = n
    case neg =>
      have hnI : (rn != n) = true := by simpa using hn
      have HN := Lib.hid (HNY.out (by simp [hn]))
      clear hn
      clear HNY HYE2 HW1
      go_enter Try.func15, Try.ntmps15
      go_wp2_with (go_at_call 19; refine (HO.out _ ht.row).mono ?_; rintro e w3 ⟨rfl, hk3⟩)
      go_ret2
      exact tabIs_of HN.out (ht.keptNo (hk3.alloc _)) (hk3.alloc _)
    subst hn
    have HN := Lib.hid (HYE2.out (by simp))
    clear HNY HYE2
    go_enter Try.func15, Try.ntmps15
    go_wp2_with (first
      | (go_at_call 19; refine (HO.out _ ht.row).mono ?_; rintro e w3 ⟨rfl, hk3⟩)
      | (go_at_call 26; refine (HW1.out _ (ht.row.keptNo (hk3.alloc _))).mono ?_; rintro e w4 ⟨a4, c4, rfl, ht4, hk4⟩))
    go_ret2
    exact tabIs_of HN.out ht4 ((hk3.alloc _).trans hk4)

set_option maxHeartbeats 4000000 in
theorem rturn_any (a : Option Addr) (c : Nat) (L : List Rw) (k : Int) (i : Nat) (f : Bool) (n : Int) (w : World) (ht : Tb w a c L) (hR : rightGo 0 L = true) (hl : L.length ≤ 1000) :
    Calls Try.prog 15 #[.slice a L.length c, .int .i64 k, .int .u16 i, .bool f, .int .i64 n] w (TabIs (turnR L k i f n) w) := by
  rcases kind_cases k with (rfl | rfl | rfl | rfl | rfl | rfl) | ⟨e, h4, h5, h6, h7, h9, h11⟩
  · exact rturn_4 a c L i f n w ht hR hl
  · cases f
    · exact rturn_5false a c L i n w ht hR hl
    · exact rturn_5true a c L i n w ht hR hl
  · exact rturn_6 a c L i f n w ht hR hl
  · exact rturn_7 a c L i f n w ht hR hl
  · exact rturn_9 a c L i f n w ht hR hl
  · exact rturn_11 a c L i f n w ht hR hl
  · have HN : Hid (turnR L k i f n = (L, 1)) := Lib.hid (by unfold turnR; rw [if_pos e])
    generalize turnR L k i f n = R at *
    have HOF := Lib.hid (fun wx h => rof_any a c L i wx h (by omega))
    generalize ofL L i = o at *
    have HO : Hid (∀ wx, Row wx a (RC L) → Calls Try.prog 19 #[.slice a L.length c, .int .u16 i] wx (fun e w' => e = .returned (.agg #[.int .u16 (o.getD Rw.zero).id, .int .i64 (o.getD Rw.zero).st, .int .i64 (o.getD Rw.zero).n]) ∧ Kept No wx w')) := HOF
    generalize o.getD Rw.zero = x at *
    obtain ⟨xi, xs, xn⟩ := x
    dsimp only at HO
    clear e HOF hR
    go_enter Try.func15, Try.ntmps15
    go_wp2_with (go_at_call 19; refine (HO.out _ ht.row).mono ?_; rintro e w3 ⟨rfl, hk3⟩)
    go_ret2
    exact tabIs_of HN.out (ht.keptNo (hk3.alloc _)) (hk3.alloc _)

end Go.Proofs.Ytlgbljohhnhhkaa
