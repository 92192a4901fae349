/-
  IdsCounts walked.
-/
import Derived.Test.YtlgbljohhnhhkaaIdO
import Derived.Laws.Tables
import Derived.Lib.SmallJoins
namespace Go.Proofs.Ytlgbljohhnhhkaa
open Go.RowKit
set_option linter.unusedVariables false
set_option linter.unusedSimpArgs false
set_option maxRecDepth 100000

theorem cnt_open {i : Nat} {s : Int} {p : Nat} (hi : 0 < i) (hs : s = 5 ∨ s = 6) : openR [] i s p = ([⟨i, s, p⟩], 0) := by
  have h1 : opnB s = true := by rcases hs with rfl | rfl <;> rfl
  have h2 : fitB s p = true := by
    unfold fitB couB
    rcases hs with rfl | rfl <;> simp
  unfold openR
  rw [if_neg (by rw [h1, h2]; simp; omega)]
  rfl
theorem one_right {i : Nat} {s : Int} {p : Nat} (hi : 0 < i) (hs : s = 5 ∨ s = 6) : rightGo 0 [⟨i, s, (p : Int)⟩] = true := by
  have h2 : fitB s p = true := by
    unfold fitB couB
    rcases hs with rfl | rfl <;> simp
  simp [rightGo, hi, h2]
theorem cnt_of {i : Nat} {s : Int} {p : Int} : ofL [⟨i, s, p⟩] i = some ⟨i, s, p⟩ := by simp [ofL]
theorem cnt_put {i : Nat} {s : Int} {p : Int} : putR [⟨i, s, p⟩] i none = [] := by simp [putR, loL, hiL]
theorem cnt_yes {i : Nat} {s k : Int} {p : Nat} (h : (s = 5 ∧ k = 9) ∨ (s = 6 ∧ k = 11)) (f : Bool) : turnR [⟨i, s, p⟩] k i f p = ([], 0) := by
  rcases h with ⟨rfl, rfl⟩ | ⟨rfl, rfl⟩
  · have e : ansZ 9 = 5 := rfl
    have y : folZ 9 f = 0 := rfl
    unfold turnR
    rw [e, if_neg (by decide), cnt_of, if_neg (by simp [okAt, e]), y, if_pos rfl, cnt_put]
  · have e : ansZ 11 = 6 := rfl
    have y : folZ 11 f = 0 := rfl
    unfold turnR
    rw [e, if_neg (by decide), cnt_of, if_neg (by simp [okAt, e]), y, if_pos rfl, cnt_put]
theorem cnt_no {i : Nat} {s k : Int} {p q : Nat} (h : (s = 5 ∧ k = 9) ∨ (s = 6 ∧ k = 11)) (f : Bool) (hpq : p ≠ q) : turnR [⟨i, s, p⟩] k i f q = ([⟨i, s, p⟩], 8) := by
  have hz : ((p : Int) = (q : Int)) = False := by simp; omega
  rcases h with ⟨rfl, rfl⟩ | ⟨rfl, rfl⟩
  · have e : ansZ 9 = 5 := rfl
    unfold turnR
    rw [e, if_neg (by decide), cnt_of, if_pos (by simp [okAt, e, couB, hz])]
  · have e : ansZ 11 = 6 := rfl
    unfold turnR
    rw [e, if_neg (by decide), cnt_of, if_pos (by simp [okAt, e, couB, hz])]
theorem cnt_other {i : Nat} {s k : Int} {p : Nat} (h : (s = 5 ∧ k = 11) ∨ (s = 6 ∧ k = 9)) (f : Bool) : turnR [⟨i, s, p⟩] k i f p = ([⟨i, s, p⟩], 8) := by
  rcases h with ⟨rfl, rfl⟩ | ⟨rfl, rfl⟩
  · have e : ansZ 11 = 6 := rfl
    unfold turnR
    rw [e, if_neg (by decide), cnt_of, if_pos (by simp [okAt, e])]
  · have e : ansZ 9 = 5 := rfl
    unfold turnR
    rw [e, if_neg (by decide), cnt_of, if_pos (by simp [okAt, e])]
theorem cnt_fly {i : Nat} {s : Int} {p : Int} (hs : s = 5 ∨ s = 6) : flyN [⟨i, s, p⟩] = 0 := by
  rcases hs with rfl | rfl <;> rfl
def PassIs (w : World) (e : Ending) (w' : World) : Prop := e = .returned (.bool true) ∧ Below w.heap.size w w'
set_option maxHeartbeats 4000000 in
theorem cnt_w0TE (w : World) (n m : Int) (p : Nat) (HP : Hid (wrap64 ((IntKind.u64.wrap n).tmod 50) = (p : Int))) (HQ : Hid (wrap64 ((IntKind.u64.wrap m).tmod 50) = (p : Int))) (hp2 : (p : Int) < 50) :
    Calls Try.prog 6 #[.int .u16 0, .agg #[.int .i64 n, .int .i64 m], .bool false] w (PassIs w) := by
  have C1 := Lib.hid (fun wx => (iopen_any none 0 [] 1 5 p wx (tb_nil wx) rfl (by decide)).mono (fun e w' h => h.num (L := [⟨1, 5, p⟩]) (z := 0) (n := 1) (cnt_open (by decide) (by simp)) rfl))
  have C2 := Lib.hid (fun wx a c h => (iturn_any a c [⟨1, 5, p⟩] 9 1 false p wx h (one_right (by decide) (by simp)) (by simp)).mono (fun e w' h => h.num (L := []) (z := 0) (n := 0) (cnt_yes (by simp) _) rfl))
  have C3 := Lib.hid (fun wx a c h => (iturn_any a c [⟨1, 5, p⟩] 11 1 false p wx h (one_right (by decide) (by simp)) (by simp)).mono (fun e w' h => h.num (L := [⟨1, 5, p⟩]) (z := 8) (n := 1) (cnt_other (by simp) _) rfl))
  have C4 := Lib.hid (fun wx a c (h : Tb wx a c [⟨1, 5, p⟩]) => (show Calls Try.prog 17 #[.slice a 1 c] wx (FlyIs 0 wx) from by have h9 := iflying_any a c [⟨1, 5, p⟩] wx h.row (by simp) (fits_all (one_right (by decide) (by simp))); rw [cnt_fly (by simp)] at h9; exact h9))
  have HT := Lib.hid (fun wx => told11_any wx)
  have hp9 := HP.out
  have hq9 := HQ.out
  go_enter Try.func6, Try.ntmps6
  go_wp2_with fail
  have hB0 := Blk.new w 53 #[.int .i64 n, .int .i64 m]
  have hk0 := (Kept.refl No w).alloc (.cells #[.int .i64 n, .int .i64 m] 53)
  generalize w.alloc (.cells #[.int .i64 n, .int .i64 m] 53) = w0 at *
  generalize w.heap.size = g at hB0 ⊢
  have b0 := hB0.cell 0
  have b1 := hB0.cell 1
  simp at b0 b1
  clear hB0
  refine wp_region_held_drew (S := (fun wx => wx.cell? ⟨g, 0, none⟩ = some (.int .i64 n) ∧ wx.cell? ⟨g, 1, none⟩ = some (.int .i64 m) ∧ Kept No w wx)) (by kernel_rfl) ?_ (fun hHeld => ?_)
  · exact ⟨b0, b1, hk0.drew⟩
  refine wpAnyH_take (i := 0) (v := (.pointer (some ⟨g, 0, none⟩))) rfl (by kernel_rfl) (by kernel_rfl) (by kernel_rfl) (fun _ _ _ h => h) (Or.inl ⟨by rfl, ?hhrTE0⟩) (by assumption) ?rrrTE0
  case hhrTE0 => (intro wz9 hSw; (try dsimp only at hSw); go_simp; try with_reducible rfl)
  go_simp
  refine wpAnyH_take (i := 1) (v := (.int .i64 n)) rfl (by kernel_rfl) (by kernel_rfl) (by kernel_rfl) (fun _ _ _ h => h) (Or.inl ⟨by rfl, ?hhrTE1⟩) (by assumption) ?rrrTE1
  case hhrTE1 => (intro wz9 hSw; have h0 := hSw.1; clear hSw b0 b1; go_simp; try with_reducible rfl)
  go_simp
  refine wpAnyH_take (i := 2) (v := (.pointer (some ⟨g, 1, none⟩))) rfl (by kernel_rfl) (by kernel_rfl) (by kernel_rfl) (fun _ _ _ h => h) (Or.inl ⟨by rfl, ?hhrTE2⟩) (by assumption) ?rrrTE2
  case hhrTE2 => (intro wz9 hSw; (try dsimp only at hSw); go_simp; try with_reducible rfl)
  go_simp
  refine wpAnyH_take (i := 3) (v := (.int .i64 m)) rfl (by kernel_rfl) (by kernel_rfl) (by kernel_rfl) (fun _ _ _ h => h) (Or.inl ⟨by rfl, ?hhrTE3⟩) (by assumption) ?rrrTE3
  case hhrTE3 => (intro wz9 hSw; have h0 := hSw.2.1; clear hSw b0 b1; go_simp; try with_reducible rfl)
  go_simp
  refine wpAnyH_take (i := 4) (v := ?vvrTE4) rfl (by kernel_rfl) (by kernel_rfl) (by kernel_rfl) (fun _ _ _ h => h) (Or.inl ⟨by rfl, ?hhrTE4⟩) (by assumption) ?rrrTE4
  case hhrTE4 => (intro wz9 hSw; (try dsimp only at hSw); go_simp; try with_reducible rfl)
  go_simp
  refine wpAnyH_take (i := 5) (v := ?vvrTE5) rfl (by kernel_rfl) (by kernel_rfl) (by kernel_rfl) (fun _ _ _ h => h) (Or.inl ⟨by rfl, ?hhrTE5⟩) (by assumption) ?rrrTE5
  case hhrTE5 => (intro wz9 hSw; (try dsimp only at hSw); go_simp; try with_reducible rfl)
  go_simp
  refine wpAnyH_done (by kernel_rfl) ?_ _
  have hkA := hHeld.2.2
  clear hHeld b0 b1 hk0
  go_wp2_with fail
  go_at_call 12
  refine (C1.out _).mono ?_
  rintro e w1 ⟨a1, c1, rfl, ht1, hk1⟩
  go_wp2_with fail
  go_at_call 14
  refine (C2.out _ _ _ ht1).mono ?_
  rintro e w2 ⟨a2, c2, rfl, ht2, hk2⟩
  go_wp2_with fail
  go_at_call 14
  refine (C3.out _ _ _ (ht1.keptNo hk2)).mono ?_
  rintro e w3 ⟨a3, c3, rfl, ht3, hk3⟩
  go_wp2_with fail
  go_at_call 7
  refine (HT.out _).mono ?_
  rintro e w4 ⟨rfl, hk4⟩
  go_wp2_with fail
  go_at_call 17
  refine (C4.out _ _ _ (((ht1.keptNo hk2).keptNo hk3).keptNo hk4)).mono ?_
  rintro e w5 ⟨rfl, hk5⟩
  go_wp2
  go_ret
  exact ⟨rfl, (((((hkA.trans hk1).trans hk2).trans hk3).trans hk4).trans hk5).below (Nat.le_refl _) (fun _ _ f => f)⟩
set_option maxHeartbeats 4000000 in
theorem cnt_w0TN (w : World) (n m : Int) (p q : Nat) (HP : Hid (wrap64 ((IntKind.u64.wrap n).tmod 50) = (p : Int))) (HQ : Hid (wrap64 ((IntKind.u64.wrap m).tmod 50) = (q : Int))) (hpq : p ≠ q) (hp2 : (p : Int) < 50) (hq2 : (q : Int) < 50) :
    Calls Try.prog 6 #[.int .u16 0, .agg #[.int .i64 n, .int .i64 m], .bool false] w (PassIs w) := by
  have C1 := Lib.hid (fun wx => (iopen_any none 0 [] 1 5 p wx (tb_nil wx) rfl (by decide)).mono (fun e w' h => h.num (L := [⟨1, 5, p⟩]) (z := 0) (n := 1) (cnt_open (by decide) (by simp)) rfl))
  have C2 := Lib.hid (fun wx a c h => (iturn_any a c [⟨1, 5, p⟩] 9 1 false q wx h (one_right (by decide) (by simp)) (by simp)).mono (fun e w' h => h.num (L := [⟨1, 5, p⟩]) (z := 8) (n := 1) (cnt_no (by simp) _ hpq) rfl))
  have C3 := Lib.hid (fun wx a c h => (iturn_any a c [⟨1, 5, p⟩] 11 1 false p wx h (one_right (by decide) (by simp)) (by simp)).mono (fun e w' h => h.num (L := [⟨1, 5, p⟩]) (z := 8) (n := 1) (cnt_other (by simp) _) rfl))
  have C4 := Lib.hid (fun wx a c (h : Tb wx a c [⟨1, 5, p⟩]) => (show Calls Try.prog 17 #[.slice a 1 c] wx (FlyIs 0 wx) from by have h9 := iflying_any a c [⟨1, 5, p⟩] wx h.row (by simp) (fits_all (one_right (by decide) (by simp))); rw [cnt_fly (by simp)] at h9; exact h9))
  have HT := Lib.hid (fun wx => told11_any wx)
  have hp9 := HP.out
  have hq9 := HQ.out
  have hne : ((p : Int) == (q : Int)) = false := by simp; omega
  go_enter Try.func6, Try.ntmps6
  go_wp2_with fail
  have hB0 := Blk.new w 53 #[.int .i64 n, .int .i64 m]
  have hk0 := (Kept.refl No w).alloc (.cells #[.int .i64 n, .int .i64 m] 53)
  generalize w.alloc (.cells #[.int .i64 n, .int .i64 m] 53) = w0 at *
  generalize w.heap.size = g at hB0 ⊢
  have b0 := hB0.cell 0
  have b1 := hB0.cell 1
  simp at b0 b1
  clear hB0
  refine wp_region_held_drew (S := (fun wx => wx.cell? ⟨g, 0, none⟩ = some (.int .i64 n) ∧ wx.cell? ⟨g, 1, none⟩ = some (.int .i64 m) ∧ Kept No w wx)) (by kernel_rfl) ?_ (fun hHeld => ?_)
  · exact ⟨b0, b1, hk0.drew⟩
  refine wpAnyH_take (i := 0) (v := (.pointer (some ⟨g, 0, none⟩))) rfl (by kernel_rfl) (by kernel_rfl) (by kernel_rfl) (fun _ _ _ h => h) (Or.inl ⟨by rfl, ?hhrTN0⟩) (by assumption) ?rrrTN0
  case hhrTN0 => (intro wz9 hSw; (try dsimp only at hSw); go_simp; try with_reducible rfl)
  go_simp
  refine wpAnyH_take (i := 1) (v := (.int .i64 n)) rfl (by kernel_rfl) (by kernel_rfl) (by kernel_rfl) (fun _ _ _ h => h) (Or.inl ⟨by rfl, ?hhrTN1⟩) (by assumption) ?rrrTN1
  case hhrTN1 => (intro wz9 hSw; have h0 := hSw.1; clear hSw b0 b1; go_simp; try with_reducible rfl)
  go_simp
  refine wpAnyH_take (i := 2) (v := (.pointer (some ⟨g, 1, none⟩))) rfl (by kernel_rfl) (by kernel_rfl) (by kernel_rfl) (fun _ _ _ h => h) (Or.inl ⟨by rfl, ?hhrTN2⟩) (by assumption) ?rrrTN2
  case hhrTN2 => (intro wz9 hSw; (try dsimp only at hSw); go_simp; try with_reducible rfl)
  go_simp
  refine wpAnyH_take (i := 3) (v := (.int .i64 m)) rfl (by kernel_rfl) (by kernel_rfl) (by kernel_rfl) (fun _ _ _ h => h) (Or.inl ⟨by rfl, ?hhrTN3⟩) (by assumption) ?rrrTN3
  case hhrTN3 => (intro wz9 hSw; have h0 := hSw.2.1; clear hSw b0 b1; go_simp; try with_reducible rfl)
  go_simp
  refine wpAnyH_take (i := 4) (v := ?vvrTN4) rfl (by kernel_rfl) (by kernel_rfl) (by kernel_rfl) (fun _ _ _ h => h) (Or.inl ⟨by rfl, ?hhrTN4⟩) (by assumption) ?rrrTN4
  case hhrTN4 => (intro wz9 hSw; (try dsimp only at hSw); go_simp; try with_reducible rfl)
  go_simp
  refine wpAnyH_take (i := 5) (v := ?vvrTN5) rfl (by kernel_rfl) (by kernel_rfl) (by kernel_rfl) (fun _ _ _ h => h) (Or.inl ⟨by rfl, ?hhrTN5⟩) (by assumption) ?rrrTN5
  case hhrTN5 => (intro wz9 hSw; (try dsimp only at hSw); go_simp; try with_reducible rfl)
  go_simp
  refine wpAnyH_done (by kernel_rfl) ?_ _
  have hkA := hHeld.2.2
  clear hHeld b0 b1 hk0
  go_wp2_with fail
  go_at_call 12
  refine (C1.out _).mono ?_
  rintro e w1 ⟨a1, c1, rfl, ht1, hk1⟩
  go_wp2_with fail
  go_at_call 14
  refine (C2.out _ _ _ ht1).mono ?_
  rintro e w2 ⟨a2, c2, rfl, ht2, hk2⟩
  go_wp2_with fail
  go_at_call 14
  refine (C3.out _ _ _ (ht1.keptNo hk2)).mono ?_
  rintro e w3 ⟨a3, c3, rfl, ht3, hk3⟩
  go_wp2_with fail
  go_at_call 7
  refine (HT.out _).mono ?_
  rintro e w4 ⟨rfl, hk4⟩
  go_wp2_with fail
  go_at_call 17
  refine (C4.out _ _ _ (((ht1.keptNo hk2).keptNo hk3).keptNo hk4)).mono ?_
  rintro e w5 ⟨rfl, hk5⟩
  go_wp2
  go_ret
  exact ⟨rfl, (((((hkA.trans hk1).trans hk2).trans hk3).trans hk4).trans hk5).below (Nat.le_refl _) (fun _ _ f => f)⟩
set_option maxHeartbeats 4000000 in
theorem cnt_w0UE (w : World) (n m : Int) (p : Nat) (HP : Hid (wrap64 ((IntKind.u64.wrap n).tmod 50) = (p : Int))) (HQ : Hid (wrap64 ((IntKind.u64.wrap m).tmod 50) = (p : Int))) (hp2 : (p : Int) < 50) :
    Calls Try.prog 6 #[.int .u16 0, .agg #[.int .i64 n, .int .i64 m], .bool true] w (PassIs w) := by
  have C1 := Lib.hid (fun wx => (iopen_any none 0 [] 1 6 p wx (tb_nil wx) rfl (by decide)).mono (fun e w' h => h.num (L := [⟨1, 6, p⟩]) (z := 0) (n := 1) (cnt_open (by decide) (by simp)) rfl))
  have C2 := Lib.hid (fun wx a c h => (iturn_any a c [⟨1, 6, p⟩] 11 1 false p wx h (one_right (by decide) (by simp)) (by simp)).mono (fun e w' h => h.num (L := []) (z := 0) (n := 0) (cnt_yes (by simp) _) rfl))
  have C3 := Lib.hid (fun wx a c h => (iturn_any a c [⟨1, 6, p⟩] 9 1 false p wx h (one_right (by decide) (by simp)) (by simp)).mono (fun e w' h => h.num (L := [⟨1, 6, p⟩]) (z := 8) (n := 1) (cnt_other (by simp) _) rfl))
  have C4 := Lib.hid (fun wx a c (h : Tb wx a c [⟨1, 6, p⟩]) => (show Calls Try.prog 17 #[.slice a 1 c] wx (FlyIs 0 wx) from by have h9 := iflying_any a c [⟨1, 6, p⟩] wx h.row (by simp) (fits_all (one_right (by decide) (by simp))); rw [cnt_fly (by simp)] at h9; exact h9))
  have HT := Lib.hid (fun wx => told11_any wx)
  have hp9 := HP.out
  have hq9 := HQ.out
  go_enter Try.func6, Try.ntmps6
  go_wp2_with fail
  have hB0 := Blk.new w 53 #[.int .i64 n, .int .i64 m]
  have hk0 := (Kept.refl No w).alloc (.cells #[.int .i64 n, .int .i64 m] 53)
  generalize w.alloc (.cells #[.int .i64 n, .int .i64 m] 53) = w0 at *
  generalize w.heap.size = g at hB0 ⊢
  have b0 := hB0.cell 0
  have b1 := hB0.cell 1
  simp at b0 b1
  clear hB0
  refine wp_region_held_drew (S := (fun wx => wx.cell? ⟨g, 0, none⟩ = some (.int .i64 n) ∧ wx.cell? ⟨g, 1, none⟩ = some (.int .i64 m) ∧ Kept No w wx)) (by kernel_rfl) ?_ (fun hHeld => ?_)
  · exact ⟨b0, b1, hk0.drew⟩
  refine wpAnyH_take (i := 0) (v := (.pointer (some ⟨g, 0, none⟩))) rfl (by kernel_rfl) (by kernel_rfl) (by kernel_rfl) (fun _ _ _ h => h) (Or.inl ⟨by rfl, ?hhrUE0⟩) (by assumption) ?rrrUE0
  case hhrUE0 => (intro wz9 hSw; (try dsimp only at hSw); go_simp; try with_reducible rfl)
  go_simp
  refine wpAnyH_take (i := 1) (v := (.int .i64 n)) rfl (by kernel_rfl) (by kernel_rfl) (by kernel_rfl) (fun _ _ _ h => h) (Or.inl ⟨by rfl, ?hhrUE1⟩) (by assumption) ?rrrUE1
  case hhrUE1 => (intro wz9 hSw; have h0 := hSw.1; clear hSw b0 b1; go_simp; try with_reducible rfl)
  go_simp
  refine wpAnyH_take (i := 2) (v := (.pointer (some ⟨g, 1, none⟩))) rfl (by kernel_rfl) (by kernel_rfl) (by kernel_rfl) (fun _ _ _ h => h) (Or.inl ⟨by rfl, ?hhrUE2⟩) (by assumption) ?rrrUE2
  case hhrUE2 => (intro wz9 hSw; (try dsimp only at hSw); go_simp; try with_reducible rfl)
  go_simp
  refine wpAnyH_take (i := 3) (v := (.int .i64 m)) rfl (by kernel_rfl) (by kernel_rfl) (by kernel_rfl) (fun _ _ _ h => h) (Or.inl ⟨by rfl, ?hhrUE3⟩) (by assumption) ?rrrUE3
  case hhrUE3 => (intro wz9 hSw; have h0 := hSw.2.1; clear hSw b0 b1; go_simp; try with_reducible rfl)
  go_simp
  refine wpAnyH_take (i := 4) (v := ?vvrUE4) rfl (by kernel_rfl) (by kernel_rfl) (by kernel_rfl) (fun _ _ _ h => h) (Or.inl ⟨by rfl, ?hhrUE4⟩) (by assumption) ?rrrUE4
  case hhrUE4 => (intro wz9 hSw; (try dsimp only at hSw); go_simp; try with_reducible rfl)
  go_simp
  refine wpAnyH_take (i := 5) (v := ?vvrUE5) rfl (by kernel_rfl) (by kernel_rfl) (by kernel_rfl) (fun _ _ _ h => h) (Or.inl ⟨by rfl, ?hhrUE5⟩) (by assumption) ?rrrUE5
  case hhrUE5 => (intro wz9 hSw; (try dsimp only at hSw); go_simp; try with_reducible rfl)
  go_simp
  refine wpAnyH_done (by kernel_rfl) ?_ _
  have hkA := hHeld.2.2
  clear hHeld b0 b1 hk0
  go_wp2_with fail
  go_at_call 12
  refine (C1.out _).mono ?_
  rintro e w1 ⟨a1, c1, rfl, ht1, hk1⟩
  go_wp2_with fail
  go_at_call 14
  refine (C2.out _ _ _ ht1).mono ?_
  rintro e w2 ⟨a2, c2, rfl, ht2, hk2⟩
  go_wp2_with fail
  go_at_call 14
  refine (C3.out _ _ _ (ht1.keptNo hk2)).mono ?_
  rintro e w3 ⟨a3, c3, rfl, ht3, hk3⟩
  go_wp2_with fail
  go_at_call 7
  refine (HT.out _).mono ?_
  rintro e w4 ⟨rfl, hk4⟩
  go_wp2_with fail
  go_at_call 17
  refine (C4.out _ _ _ (((ht1.keptNo hk2).keptNo hk3).keptNo hk4)).mono ?_
  rintro e w5 ⟨rfl, hk5⟩
  go_wp2
  go_ret
  exact ⟨rfl, (((((hkA.trans hk1).trans hk2).trans hk3).trans hk4).trans hk5).below (Nat.le_refl _) (fun _ _ f => f)⟩
set_option maxHeartbeats 4000000 in
theorem cnt_w0UN (w : World) (n m : Int) (p q : Nat) (HP : Hid (wrap64 ((IntKind.u64.wrap n).tmod 50) = (p : Int))) (HQ : Hid (wrap64 ((IntKind.u64.wrap m).tmod 50) = (q : Int))) (hpq : p ≠ q) (hp2 : (p : Int) < 50) (hq2 : (q : Int) < 50) :
    Calls Try.prog 6 #[.int .u16 0, .agg #[.int .i64 n, .int .i64 m], .bool true] w (PassIs w) := by
  have C1 := Lib.hid (fun wx => (iopen_any none 0 [] 1 6 p wx (tb_nil wx) rfl (by decide)).mono (fun e w' h => h.num (L := [⟨1, 6, p⟩]) (z := 0) (n := 1) (cnt_open (by decide) (by simp)) rfl))
  have C2 := Lib.hid (fun wx a c h => (iturn_any a c [⟨1, 6, p⟩] 11 1 false q wx h (one_right (by decide) (by simp)) (by simp)).mono (fun e w' h => h.num (L := [⟨1, 6, p⟩]) (z := 8) (n := 1) (cnt_no (by simp) _ hpq) rfl))
  have C3 := Lib.hid (fun wx a c h => (iturn_any a c [⟨1, 6, p⟩] 9 1 false p wx h (one_right (by decide) (by simp)) (by simp)).mono (fun e w' h => h.num (L := [⟨1, 6, p⟩]) (z := 8) (n := 1) (cnt_other (by simp) _) rfl))
  have C4 := Lib.hid (fun wx a c (h : Tb wx a c [⟨1, 6, p⟩]) => (show Calls Try.prog 17 #[.slice a 1 c] wx (FlyIs 0 wx) from by have h9 := iflying_any a c [⟨1, 6, p⟩] wx h.row (by simp) (fits_all (one_right (by decide) (by simp))); rw [cnt_fly (by simp)] at h9; exact h9))
  have HT := Lib.hid (fun wx => told11_any wx)
  have hp9 := HP.out
  have hq9 := HQ.out
  have hne : ((p : Int) == (q : Int)) = false := by simp; omega
  go_enter Try.func6, Try.ntmps6
  go_wp2_with fail
  have hB0 := Blk.new w 53 #[.int .i64 n, .int .i64 m]
  have hk0 := (Kept.refl No w).alloc (.cells #[.int .i64 n, .int .i64 m] 53)
  generalize w.alloc (.cells #[.int .i64 n, .int .i64 m] 53) = w0 at *
  generalize w.heap.size = g at hB0 ⊢
  have b0 := hB0.cell 0
  have b1 := hB0.cell 1
  simp at b0 b1
  clear hB0
  refine wp_region_held_drew (S := (fun wx => wx.cell? ⟨g, 0, none⟩ = some (.int .i64 n) ∧ wx.cell? ⟨g, 1, none⟩ = some (.int .i64 m) ∧ Kept No w wx)) (by kernel_rfl) ?_ (fun hHeld => ?_)
  · exact ⟨b0, b1, hk0.drew⟩
  refine wpAnyH_take (i := 0) (v := (.pointer (some ⟨g, 0, none⟩))) rfl (by kernel_rfl) (by kernel_rfl) (by kernel_rfl) (fun _ _ _ h => h) (Or.inl ⟨by rfl, ?hhrUN0⟩) (by assumption) ?rrrUN0
  case hhrUN0 => (intro wz9 hSw; (try dsimp only at hSw); go_simp; try with_reducible rfl)
  go_simp
  refine wpAnyH_take (i := 1) (v := (.int .i64 n)) rfl (by kernel_rfl) (by kernel_rfl) (by kernel_rfl) (fun _ _ _ h => h) (Or.inl ⟨by rfl, ?hhrUN1⟩) (by assumption) ?rrrUN1
  case hhrUN1 => (intro wz9 hSw; have h0 := hSw.1; clear hSw b0 b1; go_simp; try with_reducible rfl)
  go_simp
  refine wpAnyH_take (i := 2) (v := (.pointer (some ⟨g, 1, none⟩))) rfl (by kernel_rfl) (by kernel_rfl) (by kernel_rfl) (fun _ _ _ h => h) (Or.inl ⟨by rfl, ?hhrUN2⟩) (by assumption) ?rrrUN2
  case hhrUN2 => (intro wz9 hSw; (try dsimp only at hSw); go_simp; try with_reducible rfl)
  go_simp
  refine wpAnyH_take (i := 3) (v := (.int .i64 m)) rfl (by kernel_rfl) (by kernel_rfl) (by kernel_rfl) (fun _ _ _ h => h) (Or.inl ⟨by rfl, ?hhrUN3⟩) (by assumption) ?rrrUN3
  case hhrUN3 => (intro wz9 hSw; have h0 := hSw.2.1; clear hSw b0 b1; go_simp; try with_reducible rfl)
  go_simp
  refine wpAnyH_take (i := 4) (v := ?vvrUN4) rfl (by kernel_rfl) (by kernel_rfl) (by kernel_rfl) (fun _ _ _ h => h) (Or.inl ⟨by rfl, ?hhrUN4⟩) (by assumption) ?rrrUN4
  case hhrUN4 => (intro wz9 hSw; (try dsimp only at hSw); go_simp; try with_reducible rfl)
  go_simp
  refine wpAnyH_take (i := 5) (v := ?vvrUN5) rfl (by kernel_rfl) (by kernel_rfl) (by kernel_rfl) (fun _ _ _ h => h) (Or.inl ⟨by rfl, ?hhrUN5⟩) (by assumption) ?rrrUN5
  case hhrUN5 => (intro wz9 hSw; (try dsimp only at hSw); go_simp; try with_reducible rfl)
  go_simp
  refine wpAnyH_done (by kernel_rfl) ?_ _
  have hkA := hHeld.2.2
  clear hHeld b0 b1 hk0
  go_wp2_with fail
  go_at_call 12
  refine (C1.out _).mono ?_
  rintro e w1 ⟨a1, c1, rfl, ht1, hk1⟩
  go_wp2_with fail
  go_at_call 14
  refine (C2.out _ _ _ ht1).mono ?_
  rintro e w2 ⟨a2, c2, rfl, ht2, hk2⟩
  go_wp2_with fail
  go_at_call 14
  refine (C3.out _ _ _ (ht1.keptNo hk2)).mono ?_
  rintro e w3 ⟨a3, c3, rfl, ht3, hk3⟩
  go_wp2_with fail
  go_at_call 7
  refine (HT.out _).mono ?_
  rintro e w4 ⟨rfl, hk4⟩
  go_wp2_with fail
  go_at_call 17
  refine (C4.out _ _ _ (((ht1.keptNo hk2).keptNo hk3).keptNo hk4)).mono ?_
  rintro e w5 ⟨rfl, hk5⟩
  go_wp2
  go_ret
  exact ⟨rfl, (((((hkA.trans hk1).trans hk2).trans hk3).trans hk4).trans hk5).below (Nat.le_refl _) (fun _ _ f => f)⟩
set_option maxHeartbeats 4000000 in
theorem cnt_w1TE (w : World) (d : Nat) (n m : Int) (p : Nat) (HP : Hid (wrap64 ((IntKind.u64.wrap n).tmod 50) = (p : Int))) (HQ : Hid (wrap64 ((IntKind.u64.wrap m).tmod 50) = (p : Int))) (hp2 : (p : Int) < 50) (hd : 0 < d) :
    Calls Try.prog 6 #[.int .u16 (d : Int), .agg #[.int .i64 n, .int .i64 m], .bool false] w (PassIs w) := by
  have C1 := Lib.hid (fun wx => (iopen_any none 0 [] d 5 p wx (tb_nil wx) rfl (by decide)).mono (fun e w' h => h.num (L := [⟨d, 5, p⟩]) (z := 0) (n := 1) (cnt_open hd (by simp)) rfl))
  have C2 := Lib.hid (fun wx a c h => (iturn_any a c [⟨d, 5, p⟩] 9 d false p wx h (one_right hd (by simp)) (by simp)).mono (fun e w' h => h.num (L := []) (z := 0) (n := 0) (cnt_yes (by simp) _) rfl))
  have C3 := Lib.hid (fun wx a c h => (iturn_any a c [⟨d, 5, p⟩] 11 d false p wx h (one_right hd (by simp)) (by simp)).mono (fun e w' h => h.num (L := [⟨d, 5, p⟩]) (z := 8) (n := 1) (cnt_other (by simp) _) rfl))
  have C4 := Lib.hid (fun wx a c (h : Tb wx a c [⟨d, 5, p⟩]) => (show Calls Try.prog 17 #[.slice a 1 c] wx (FlyIs 0 wx) from by have h9 := iflying_any a c [⟨d, 5, p⟩] wx h.row (by simp) (fits_all (one_right hd (by simp))); rw [cnt_fly (by simp)] at h9; exact h9))
  have HT := Lib.hid (fun wx => told11_any wx)
  have hp9 := HP.out
  have hq9 := HQ.out
  have hd1 : (1 : Int) ≤ (d : Int) := by omega
  go_enter Try.func6, Try.ntmps6
  go_wp2_with fail
  have hB0 := Blk.new w 53 #[.int .i64 n, .int .i64 m]
  have hk0 := (Kept.refl No w).alloc (.cells #[.int .i64 n, .int .i64 m] 53)
  generalize w.alloc (.cells #[.int .i64 n, .int .i64 m] 53) = w0 at *
  generalize w.heap.size = g at hB0 ⊢
  have b0 := hB0.cell 0
  have b1 := hB0.cell 1
  simp at b0 b1
  clear hB0
  refine wp_region_held_drew (S := (fun wx => wx.cell? ⟨g, 0, none⟩ = some (.int .i64 n) ∧ wx.cell? ⟨g, 1, none⟩ = some (.int .i64 m) ∧ Kept No w wx)) (by kernel_rfl) ?_ (fun hHeld => ?_)
  · exact ⟨b0, b1, hk0.drew⟩
  refine wpAnyH_take (i := 0) (v := (.pointer (some ⟨g, 0, none⟩))) rfl (by kernel_rfl) (by kernel_rfl) (by kernel_rfl) (fun _ _ _ h => h) (Or.inl ⟨by rfl, ?hhrTE0⟩) (by assumption) ?rrrTE0
  case hhrTE0 => (intro wz9 hSw; (try dsimp only at hSw); go_simp; try with_reducible rfl)
  go_simp
  refine wpAnyH_take (i := 1) (v := (.int .i64 n)) rfl (by kernel_rfl) (by kernel_rfl) (by kernel_rfl) (fun _ _ _ h => h) (Or.inl ⟨by rfl, ?hhrTE1⟩) (by assumption) ?rrrTE1
  case hhrTE1 => (intro wz9 hSw; have h0 := hSw.1; clear hSw b0 b1; go_simp; try with_reducible rfl)
  go_simp
  refine wpAnyH_take (i := 2) (v := (.pointer (some ⟨g, 1, none⟩))) rfl (by kernel_rfl) (by kernel_rfl) (by kernel_rfl) (fun _ _ _ h => h) (Or.inl ⟨by rfl, ?hhrTE2⟩) (by assumption) ?rrrTE2
  case hhrTE2 => (intro wz9 hSw; (try dsimp only at hSw); go_simp; try with_reducible rfl)
  go_simp
  refine wpAnyH_take (i := 3) (v := (.int .i64 m)) rfl (by kernel_rfl) (by kernel_rfl) (by kernel_rfl) (fun _ _ _ h => h) (Or.inl ⟨by rfl, ?hhrTE3⟩) (by assumption) ?rrrTE3
  case hhrTE3 => (intro wz9 hSw; have h0 := hSw.2.1; clear hSw b0 b1; go_simp; try with_reducible rfl)
  go_simp
  refine wpAnyH_take (i := 4) (v := ?vvrTE4) rfl (by kernel_rfl) (by kernel_rfl) (by kernel_rfl) (fun _ _ _ h => h) (Or.inl ⟨by rfl, ?hhrTE4⟩) (by assumption) ?rrrTE4
  case hhrTE4 => (intro wz9 hSw; (try dsimp only at hSw); go_simp; try with_reducible rfl)
  go_simp
  refine wpAnyH_take (i := 5) (v := ?vvrTE5) rfl (by kernel_rfl) (by kernel_rfl) (by kernel_rfl) (fun _ _ _ h => h) (Or.inl ⟨by rfl, ?hhrTE5⟩) (by assumption) ?rrrTE5
  case hhrTE5 => (intro wz9 hSw; (try dsimp only at hSw); go_simp; try with_reducible rfl)
  go_simp
  refine wpAnyH_done (by kernel_rfl) ?_ _
  have hkA := hHeld.2.2
  clear hHeld b0 b1 hk0
  go_wp2_with fail
  go_at_call 12
  refine (C1.out _).mono ?_
  rintro e w1 ⟨a1, c1, rfl, ht1, hk1⟩
  go_wp2_with fail
  go_at_call 14
  refine (C2.out _ _ _ ht1).mono ?_
  rintro e w2 ⟨a2, c2, rfl, ht2, hk2⟩
  go_wp2_with fail
  go_at_call 14
  refine (C3.out _ _ _ (ht1.keptNo hk2)).mono ?_
  rintro e w3 ⟨a3, c3, rfl, ht3, hk3⟩
  go_wp2_with fail
  go_at_call 7
  refine (HT.out _).mono ?_
  rintro e w4 ⟨rfl, hk4⟩
  go_wp2_with fail
  go_at_call 17
  refine (C4.out _ _ _ (((ht1.keptNo hk2).keptNo hk3).keptNo hk4)).mono ?_
  rintro e w5 ⟨rfl, hk5⟩
  go_wp2
  go_ret
  exact ⟨rfl, (((((hkA.trans hk1).trans hk2).trans hk3).trans hk4).trans hk5).below (Nat.le_refl _) (fun _ _ f => f)⟩
set_option maxHeartbeats 4000000 in
theorem cnt_w1TN (w : World) (d : Nat) (n m : Int) (p q : Nat) (HP : Hid (wrap64 ((IntKind.u64.wrap n).tmod 50) = (p : Int))) (HQ : Hid (wrap64 ((IntKind.u64.wrap m).tmod 50) = (q : Int))) (hpq : p ≠ q) (hp2 : (p : Int) < 50) (hq2 : (q : Int) < 50) (hd : 0 < d) :
    Calls Try.prog 6 #[.int .u16 (d : Int), .agg #[.int .i64 n, .int .i64 m], .bool false] w (PassIs w) := by
  have C1 := Lib.hid (fun wx => (iopen_any none 0 [] d 5 p wx (tb_nil wx) rfl (by decide)).mono (fun e w' h => h.num (L := [⟨d, 5, p⟩]) (z := 0) (n := 1) (cnt_open hd (by simp)) rfl))
  have C2 := Lib.hid (fun wx a c h => (iturn_any a c [⟨d, 5, p⟩] 9 d false q wx h (one_right hd (by simp)) (by simp)).mono (fun e w' h => h.num (L := [⟨d, 5, p⟩]) (z := 8) (n := 1) (cnt_no (by simp) _ hpq) rfl))
  have C3 := Lib.hid (fun wx a c h => (iturn_any a c [⟨d, 5, p⟩] 11 d false p wx h (one_right hd (by simp)) (by simp)).mono (fun e w' h => h.num (L := [⟨d, 5, p⟩]) (z := 8) (n := 1) (cnt_other (by simp) _) rfl))
  have C4 := Lib.hid (fun wx a c (h : Tb wx a c [⟨d, 5, p⟩]) => (show Calls Try.prog 17 #[.slice a 1 c] wx (FlyIs 0 wx) from by have h9 := iflying_any a c [⟨d, 5, p⟩] wx h.row (by simp) (fits_all (one_right hd (by simp))); rw [cnt_fly (by simp)] at h9; exact h9))
  have HT := Lib.hid (fun wx => told11_any wx)
  have hp9 := HP.out
  have hq9 := HQ.out
  have hne : ((p : Int) == (q : Int)) = false := by simp; omega
  have hd1 : (1 : Int) ≤ (d : Int) := by omega
  go_enter Try.func6, Try.ntmps6
  go_wp2_with fail
  have hB0 := Blk.new w 53 #[.int .i64 n, .int .i64 m]
  have hk0 := (Kept.refl No w).alloc (.cells #[.int .i64 n, .int .i64 m] 53)
  generalize w.alloc (.cells #[.int .i64 n, .int .i64 m] 53) = w0 at *
  generalize w.heap.size = g at hB0 ⊢
  have b0 := hB0.cell 0
  have b1 := hB0.cell 1
  simp at b0 b1
  clear hB0
  refine wp_region_held_drew (S := (fun wx => wx.cell? ⟨g, 0, none⟩ = some (.int .i64 n) ∧ wx.cell? ⟨g, 1, none⟩ = some (.int .i64 m) ∧ Kept No w wx)) (by kernel_rfl) ?_ (fun hHeld => ?_)
  · exact ⟨b0, b1, hk0.drew⟩
  refine wpAnyH_take (i := 0) (v := (.pointer (some ⟨g, 0, none⟩))) rfl (by kernel_rfl) (by kernel_rfl) (by kernel_rfl) (fun _ _ _ h => h) (Or.inl ⟨by rfl, ?hhrTN0⟩) (by assumption) ?rrrTN0
  case hhrTN0 => (intro wz9 hSw; (try dsimp only at hSw); go_simp; try with_reducible rfl)
  go_simp
  refine wpAnyH_take (i := 1) (v := (.int .i64 n)) rfl (by kernel_rfl) (by kernel_rfl) (by kernel_rfl) (fun _ _ _ h => h) (Or.inl ⟨by rfl, ?hhrTN1⟩) (by assumption) ?rrrTN1
  case hhrTN1 => (intro wz9 hSw; have h0 := hSw.1; clear hSw b0 b1; go_simp; try with_reducible rfl)
  go_simp
  refine wpAnyH_take (i := 2) (v := (.pointer (some ⟨g, 1, none⟩))) rfl (by kernel_rfl) (by kernel_rfl) (by kernel_rfl) (fun _ _ _ h => h) (Or.inl ⟨by rfl, ?hhrTN2⟩) (by assumption) ?rrrTN2
  case hhrTN2 => (intro wz9 hSw; (try dsimp only at hSw); go_simp; try with_reducible rfl)
  go_simp
  refine wpAnyH_take (i := 3) (v := (.int .i64 m)) rfl (by kernel_rfl) (by kernel_rfl) (by kernel_rfl) (fun _ _ _ h => h) (Or.inl ⟨by rfl, ?hhrTN3⟩) (by assumption) ?rrrTN3
  case hhrTN3 => (intro wz9 hSw; have h0 := hSw.2.1; clear hSw b0 b1; go_simp; try with_reducible rfl)
  go_simp
  refine wpAnyH_take (i := 4) (v := ?vvrTN4) rfl (by kernel_rfl) (by kernel_rfl) (by kernel_rfl) (fun _ _ _ h => h) (Or.inl ⟨by rfl, ?hhrTN4⟩) (by assumption) ?rrrTN4
  case hhrTN4 => (intro wz9 hSw; (try dsimp only at hSw); go_simp; try with_reducible rfl)
  go_simp
  refine wpAnyH_take (i := 5) (v := ?vvrTN5) rfl (by kernel_rfl) (by kernel_rfl) (by kernel_rfl) (fun _ _ _ h => h) (Or.inl ⟨by rfl, ?hhrTN5⟩) (by assumption) ?rrrTN5
  case hhrTN5 => (intro wz9 hSw; (try dsimp only at hSw); go_simp; try with_reducible rfl)
  go_simp
  refine wpAnyH_done (by kernel_rfl) ?_ _
  have hkA := hHeld.2.2
  clear hHeld b0 b1 hk0
  go_wp2_with fail
  go_at_call 12
  refine (C1.out _).mono ?_
  rintro e w1 ⟨a1, c1, rfl, ht1, hk1⟩
  go_wp2_with fail
  go_at_call 14
  refine (C2.out _ _ _ ht1).mono ?_
  rintro e w2 ⟨a2, c2, rfl, ht2, hk2⟩
  go_wp2_with fail
  go_at_call 14
  refine (C3.out _ _ _ (ht1.keptNo hk2)).mono ?_
  rintro e w3 ⟨a3, c3, rfl, ht3, hk3⟩
  go_wp2_with fail
  go_at_call 7
  refine (HT.out _).mono ?_
  rintro e w4 ⟨rfl, hk4⟩
  go_wp2_with fail
  go_at_call 17
  refine (C4.out _ _ _ (((ht1.keptNo hk2).keptNo hk3).keptNo hk4)).mono ?_
  rintro e w5 ⟨rfl, hk5⟩
  go_wp2
  go_ret
  exact ⟨rfl, (((((hkA.trans hk1).trans hk2).trans hk3).trans hk4).trans hk5).below (Nat.le_refl _) (fun _ _ f => f)⟩
set_option maxHeartbeats 4000000 in
theorem cnt_w1UE (w : World) (d : Nat) (n m : Int) (p : Nat) (HP : Hid (wrap64 ((IntKind.u64.wrap n).tmod 50) = (p : Int))) (HQ : Hid (wrap64 ((IntKind.u64.wrap m).tmod 50) = (p : Int))) (hp2 : (p : Int) < 50) (hd : 0 < d) :
    Calls Try.prog 6 #[.int .u16 (d : Int), .agg #[.int .i64 n, .int .i64 m], .bool true] w (PassIs w) := by
  have C1 := Lib.hid (fun wx => (iopen_any none 0 [] d 6 p wx (tb_nil wx) rfl (by decide)).mono (fun e w' h => h.num (L := [⟨d, 6, p⟩]) (z := 0) (n := 1) (cnt_open hd (by simp)) rfl))
  have C2 := Lib.hid (fun wx a c h => (iturn_any a c [⟨d, 6, p⟩] 11 d false p wx h (one_right hd (by simp)) (by simp)).mono (fun e w' h => h.num (L := []) (z := 0) (n := 0) (cnt_yes (by simp) _) rfl))
  have C3 := Lib.hid (fun wx a c h => (iturn_any a c [⟨d, 6, p⟩] 9 d false p wx h (one_right hd (by simp)) (by simp)).mono (fun e w' h => h.num (L := [⟨d, 6, p⟩]) (z := 8) (n := 1) (cnt_other (by simp) _) rfl))
  have C4 := Lib.hid (fun wx a c (h : Tb wx a c [⟨d, 6, p⟩]) => (show Calls Try.prog 17 #[.slice a 1 c] wx (FlyIs 0 wx) from by have h9 := iflying_any a c [⟨d, 6, p⟩] wx h.row (by simp) (fits_all (one_right hd (by simp))); rw [cnt_fly (by simp)] at h9; exact h9))
  have HT := Lib.hid (fun wx => told11_any wx)
  have hp9 := HP.out
  have hq9 := HQ.out
  have hd1 : (1 : Int) ≤ (d : Int) := by omega
  go_enter Try.func6, Try.ntmps6
  go_wp2_with fail
  have hB0 := Blk.new w 53 #[.int .i64 n, .int .i64 m]
  have hk0 := (Kept.refl No w).alloc (.cells #[.int .i64 n, .int .i64 m] 53)
  generalize w.alloc (.cells #[.int .i64 n, .int .i64 m] 53) = w0 at *
  generalize w.heap.size = g at hB0 ⊢
  have b0 := hB0.cell 0
  have b1 := hB0.cell 1
  simp at b0 b1
  clear hB0
  refine wp_region_held_drew (S := (fun wx => wx.cell? ⟨g, 0, none⟩ = some (.int .i64 n) ∧ wx.cell? ⟨g, 1, none⟩ = some (.int .i64 m) ∧ Kept No w wx)) (by kernel_rfl) ?_ (fun hHeld => ?_)
  · exact ⟨b0, b1, hk0.drew⟩
  refine wpAnyH_take (i := 0) (v := (.pointer (some ⟨g, 0, none⟩))) rfl (by kernel_rfl) (by kernel_rfl) (by kernel_rfl) (fun _ _ _ h => h) (Or.inl ⟨by rfl, ?hhrUE0⟩) (by assumption) ?rrrUE0
  case hhrUE0 => (intro wz9 hSw; (try dsimp only at hSw); go_simp; try with_reducible rfl)
  go_simp
  refine wpAnyH_take (i := 1) (v := (.int .i64 n)) rfl (by kernel_rfl) (by kernel_rfl) (by kernel_rfl) (fun _ _ _ h => h) (Or.inl ⟨by rfl, ?hhrUE1⟩) (by assumption) ?rrrUE1
  case hhrUE1 => (intro wz9 hSw; have h0 := hSw.1; clear hSw b0 b1; go_simp; try with_reducible rfl)
  go_simp
  refine wpAnyH_take (i := 2) (v := (.pointer (some ⟨g, 1, none⟩))) rfl (by kernel_rfl) (by kernel_rfl) (by kernel_rfl) (fun _ _ _ h => h) (Or.inl ⟨by rfl, ?hhrUE2⟩) (by assumption) ?rrrUE2
  case hhrUE2 => (intro wz9 hSw; (try dsimp only at hSw); go_simp; try with_reducible rfl)
  go_simp
  refine wpAnyH_take (i := 3) (v := (.int .i64 m)) rfl (by kernel_rfl) (by kernel_rfl) (by kernel_rfl) (fun _ _ _ h => h) (Or.inl ⟨by rfl, ?hhrUE3⟩) (by assumption) ?rrrUE3
  case hhrUE3 => (intro wz9 hSw; have h0 := hSw.2.1; clear hSw b0 b1; go_simp; try with_reducible rfl)
  go_simp
  refine wpAnyH_take (i := 4) (v := ?vvrUE4) rfl (by kernel_rfl) (by kernel_rfl) (by kernel_rfl) (fun _ _ _ h => h) (Or.inl ⟨by rfl, ?hhrUE4⟩) (by assumption) ?rrrUE4
  case hhrUE4 => (intro wz9 hSw; (try dsimp only at hSw); go_simp; try with_reducible rfl)
  go_simp
  refine wpAnyH_take (i := 5) (v := ?vvrUE5) rfl (by kernel_rfl) (by kernel_rfl) (by kernel_rfl) (fun _ _ _ h => h) (Or.inl ⟨by rfl, ?hhrUE5⟩) (by assumption) ?rrrUE5
  case hhrUE5 => (intro wz9 hSw; (try dsimp only at hSw); go_simp; try with_reducible rfl)
  go_simp
  refine wpAnyH_done (by kernel_rfl) ?_ _
  have hkA := hHeld.2.2
  clear hHeld b0 b1 hk0
  go_wp2_with fail
  go_at_call 12
  refine (C1.out _).mono ?_
  rintro e w1 ⟨a1, c1, rfl, ht1, hk1⟩
  go_wp2_with fail
  go_at_call 14
  refine (C2.out _ _ _ ht1).mono ?_
  rintro e w2 ⟨a2, c2, rfl, ht2, hk2⟩
  go_wp2_with fail
  go_at_call 14
  refine (C3.out _ _ _ (ht1.keptNo hk2)).mono ?_
  rintro e w3 ⟨a3, c3, rfl, ht3, hk3⟩
  go_wp2_with fail
  go_at_call 7
  refine (HT.out _).mono ?_
  rintro e w4 ⟨rfl, hk4⟩
  go_wp2_with fail
  go_at_call 17
  refine (C4.out _ _ _ (((ht1.keptNo hk2).keptNo hk3).keptNo hk4)).mono ?_
  rintro e w5 ⟨rfl, hk5⟩
  go_wp2
  go_ret
  exact ⟨rfl, (((((hkA.trans hk1).trans hk2).trans hk3).trans hk4).trans hk5).below (Nat.le_refl _) (fun _ _ f => f)⟩
set_option maxHeartbeats 4000000 in
theorem cnt_w1UN (w : World) (d : Nat) (n m : Int) (p q : Nat) (HP : Hid (wrap64 ((IntKind.u64.wrap n).tmod 50) = (p : Int))) (HQ : Hid (wrap64 ((IntKind.u64.wrap m).tmod 50) = (q : Int))) (hpq : p ≠ q) (hp2 : (p : Int) < 50) (hq2 : (q : Int) < 50) (hd : 0 < d) :
    Calls Try.prog 6 #[.int .u16 (d : Int), .agg #[.int .i64 n, .int .i64 m], .bool true] w (PassIs w) := by
  have C1 := Lib.hid (fun wx => (iopen_any none 0 [] d 6 p wx (tb_nil wx) rfl (by decide)).mono (fun e w' h => h.num (L := [⟨d, 6, p⟩]) (z := 0) (n := 1) (cnt_open hd (by simp)) rfl))
  have C2 := Lib.hid (fun wx a c h => (iturn_any a c [⟨d, 6, p⟩] 11 d false q wx h (one_right hd (by simp)) (by simp)).mono (fun e w' h => h.num (L := [⟨d, 6, p⟩]) (z := 8) (n := 1) (cnt_no (by simp) _ hpq) rfl))
  have C3 := Lib.hid (fun wx a c h => (iturn_any a c [⟨d, 6, p⟩] 9 d false p wx h (one_right hd (by simp)) (by simp)).mono (fun e w' h => h.num (L := [⟨d, 6, p⟩]) (z := 8) (n := 1) (cnt_other (by simp) _) rfl))
  have C4 := Lib.hid (fun wx a c (h : Tb wx a c [⟨d, 6, p⟩]) => (show Calls Try.prog 17 #[.slice a 1 c] wx (FlyIs 0 wx) from by have h9 := iflying_any a c [⟨d, 6, p⟩] wx h.row (by simp) (fits_all (one_right hd (by simp))); rw [cnt_fly (by simp)] at h9; exact h9))
  have HT := Lib.hid (fun wx => told11_any wx)
  have hp9 := HP.out
  have hq9 := HQ.out
  have hne : ((p : Int) == (q : Int)) = false := by simp; omega
  have hd1 : (1 : Int) ≤ (d : Int) := by omega
  go_enter Try.func6, Try.ntmps6
  go_wp2_with fail
  have hB0 := Blk.new w 53 #[.int .i64 n, .int .i64 m]
  have hk0 := (Kept.refl No w).alloc (.cells #[.int .i64 n, .int .i64 m] 53)
  generalize w.alloc (.cells #[.int .i64 n, .int .i64 m] 53) = w0 at *
  generalize w.heap.size = g at hB0 ⊢
  have b0 := hB0.cell 0
  have b1 := hB0.cell 1
  simp at b0 b1
  clear hB0
  refine wp_region_held_drew (S := (fun wx => wx.cell? ⟨g, 0, none⟩ = some (.int .i64 n) ∧ wx.cell? ⟨g, 1, none⟩ = some (.int .i64 m) ∧ Kept No w wx)) (by kernel_rfl) ?_ (fun hHeld => ?_)
  · exact ⟨b0, b1, hk0.drew⟩
  refine wpAnyH_take (i := 0) (v := (.pointer (some ⟨g, 0, none⟩))) rfl (by kernel_rfl) (by kernel_rfl) (by kernel_rfl) (fun _ _ _ h => h) (Or.inl ⟨by rfl, ?hhrUN0⟩) (by assumption) ?rrrUN0
  case hhrUN0 => (intro wz9 hSw; (try dsimp only at hSw); go_simp; try with_reducible rfl)
  go_simp
  refine wpAnyH_take (i := 1) (v := (.int .i64 n)) rfl (by kernel_rfl) (by kernel_rfl) (by kernel_rfl) (fun _ _ _ h => h) (Or.inl ⟨by rfl, ?hhrUN1⟩) (by assumption) ?rrrUN1
  case hhrUN1 => (intro wz9 hSw; have h0 := hSw.1; clear hSw b0 b1; go_simp; try with_reducible rfl)
  go_simp
  refine wpAnyH_take (i := 2) (v := (.pointer (some ⟨g, 1, none⟩))) rfl (by kernel_rfl) (by kernel_rfl) (by kernel_rfl) (fun _ _ _ h => h) (Or.inl ⟨by rfl, ?hhrUN2⟩) (by assumption) ?rrrUN2
  case hhrUN2 => (intro wz9 hSw; (try dsimp only at hSw); go_simp; try with_reducible rfl)
  go_simp
  refine wpAnyH_take (i := 3) (v := (.int .i64 m)) rfl (by kernel_rfl) (by kernel_rfl) (by kernel_rfl) (fun _ _ _ h => h) (Or.inl ⟨by rfl, ?hhrUN3⟩) (by assumption) ?rrrUN3
  case hhrUN3 => (intro wz9 hSw; have h0 := hSw.2.1; clear hSw b0 b1; go_simp; try with_reducible rfl)
  go_simp
  refine wpAnyH_take (i := 4) (v := ?vvrUN4) rfl (by kernel_rfl) (by kernel_rfl) (by kernel_rfl) (fun _ _ _ h => h) (Or.inl ⟨by rfl, ?hhrUN4⟩) (by assumption) ?rrrUN4
  case hhrUN4 => (intro wz9 hSw; (try dsimp only at hSw); go_simp; try with_reducible rfl)
  go_simp
  refine wpAnyH_take (i := 5) (v := ?vvrUN5) rfl (by kernel_rfl) (by kernel_rfl) (by kernel_rfl) (fun _ _ _ h => h) (Or.inl ⟨by rfl, ?hhrUN5⟩) (by assumption) ?rrrUN5
  case hhrUN5 => (intro wz9 hSw; (try dsimp only at hSw); go_simp; try with_reducible rfl)
  go_simp
  refine wpAnyH_done (by kernel_rfl) ?_ _
  have hkA := hHeld.2.2
  clear hHeld b0 b1 hk0
  go_wp2_with fail
  go_at_call 12
  refine (C1.out _).mono ?_
  rintro e w1 ⟨a1, c1, rfl, ht1, hk1⟩
  go_wp2_with fail
  go_at_call 14
  refine (C2.out _ _ _ ht1).mono ?_
  rintro e w2 ⟨a2, c2, rfl, ht2, hk2⟩
  go_wp2_with fail
  go_at_call 14
  refine (C3.out _ _ _ (ht1.keptNo hk2)).mono ?_
  rintro e w3 ⟨a3, c3, rfl, ht3, hk3⟩
  go_wp2_with fail
  go_at_call 7
  refine (HT.out _).mono ?_
  rintro e w4 ⟨rfl, hk4⟩
  go_wp2_with fail
  go_at_call 17
  refine (C4.out _ _ _ (((ht1.keptNo hk2).keptNo hk3).keptNo hk4)).mono ?_
  rintro e w5 ⟨rfl, hk5⟩
  go_wp2
  go_ret
  exact ⟨rfl, (((((hkA.trans hk1).trans hk2).trans hk3).trans hk4).trans hk5).below (Nat.le_refl _) (fun _ _ f => f)⟩
theorem idsCounts_walk (id : Int) (n m : Int) (u : Bool) (w : World) (h1 : (Lit.int .u16 id).wf = true) (h2 : (Lit.int .i64 n).wf = true) (h3 : (Lit.int .i64 m).wf = true) :
    Calls Try.prog 6 #[.int .u16 id, .agg #[.int .i64 n, .int .i64 m], .bool u] w fun e w' => e = .returned (.bool true) ∧ Below w.heap.size w w' := by
  have b1 := bounds_u16 h1
  obtain ⟨d, rfl⟩ := Int.eq_ofNat_of_zero_le b1.1
  obtain ⟨p, hp, hp2⟩ := law_mod n 50 (by decide) (by decide)
  obtain ⟨q, hq, hq2⟩ := law_mod m 50 (by decide) (by decide)
  have HP := Lib.hid hp
  have HQ := Lib.hid hq
  clear hp hq
  by_cases hd : d = 0
  · subst hd
    cases u
    · by_cases hpq : p = q
      · subst hpq; exact cnt_w0TE w n m p HP HQ hp2
      · exact cnt_w0TN w n m p q HP HQ hpq hp2 hq2
    · by_cases hpq : p = q
      · subst hpq; exact cnt_w0UE w n m p HP HQ hp2
      · exact cnt_w0UN w n m p q HP HQ hpq hp2 hq2
  · cases u
    · by_cases hpq : p = q
      · subst hpq; exact cnt_w1TE w d n m p HP HQ hp2 (by omega)
      · exact cnt_w1TN w d n m p q HP HQ hpq hp2 hq2 (by omega)
    · by_cases hpq : p = q
      · subst hpq; exact cnt_w1UE w d n m p HP HQ hp2 (by omega)
      · exact cnt_w1UN w d n m p q HP HQ hpq hp2 hq2 (by omega)

end Go.Proofs.Ytlgbljohhnhhkaa
