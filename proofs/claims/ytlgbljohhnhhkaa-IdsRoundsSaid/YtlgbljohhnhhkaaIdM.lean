/-
  The document's Open and Turn.
-/
import Derived.Test.YtlgbljohhnhhkaaIdL
namespace Go.Proofs.Ytlgbljohhnhhkaa
open Go.RowKit
set_option linter.unusedVariables false
set_option linter.unusedSimpArgs false
set_option maxRecDepth 100000

theorem opn_cases (s : Int) : (s = 1 ∨ s = 2 ∨ s = 5 ∨ s = 6) ∨ (opnB s = false ∧ (s != 1) = true ∧ (s != 2) = true ∧ (s != 5) = true ∧ (s != 6) = true) := by
  by_cases h1 : s = 1
  · exact .inl (.inl h1)
  by_cases h2 : s = 2
  · exact .inl (.inr (.inl h2))
  by_cases h5 : s = 5
  · exact .inl (.inr (.inr (.inl h5)))
  by_cases h6 : s = 6
  · exact .inl (.inr (.inr (.inr h6)))
  · exact .inr ⟨by simp [opnB, couB, h1, h2, h5, h6], by simpa using h1, by simpa using h2, by simpa using h5, by simpa using h6⟩
theorem opn_fit {s n : Int} (h : s = 1 ∨ s = 2 ∨ s = 5 ∨ s = 6) : opnB s = true ∧ fitB s n = cntB s n := by
  refine ⟨?_, fit_cnt (by omega) (by omega)⟩
  rcases h with rfl | rfl | rfl | rfl <;> rfl
theorem put_tb {w w' : World} {L : List Rw} {i : Nat} {x : Rw} {e : Ending} (hR : rightGo 0 L = true) (h : OwnR 49 w (withGo i x L (decide (x.id = 0))) e w') : ∃ a c, e = .returned (.slice a (putR L i (if x.id = 0 then none else some x)).length c) ∧ Tb w' a c (putR L i (if x.id = 0 then none else some x)) ∧ Kept No w w' := by
  rw [withGo_put x (asc_of hR)] at h
  obtain ⟨a, c, h1, h2, h3⟩ := h
  exact ⟨a, c, h1, own_tb h2, h3⟩
def PutIs (M : List Rw) (w : World) (e : Ending) (w' : World) : Prop := ∃ a c, e = .returned (.slice a M.length c) ∧ Tb w' a c M ∧ Kept No w w'

theorem fld0 (i s n : Int) (w : World) : (Instr.field 49 (.agg #[.int .u16 i, .int .i64 s, .int .i64 n]) 0).run Try.prog w = .ok (.int .u16 i) w := by kernel_rfl
set_option maxHeartbeats 4000000 in
theorem ropen_any (a : Option Addr) (c : Nat) (L : List Rw) (i : Nat) (s n : Int) (w : World) (ht : Tb w a c L) (hR : rightGo 0 L = true) (hl : L.length ≤ 1000) :
    Calls Try.prog 13 #[.slice a L.length c, .int .u16 i, .int .i64 s, .int .i64 n] w (TabIs (openR L i s n) w) := by
  have cC := fun wx => rcounts_any s n wx
  by_cases h0 : i = 0
  · have HN : Hid (openR L i s n = (L, 1)) := Lib.hid (by unfold openR; rw [if_pos (.inl h0)])
    generalize openR L i s n = R at *
    subst h0
    clear cC hR
    go_enter Try.func13, Try.ntmps13
    go_wp2
    go_ret2
    exact tabIs_of HN.out ht (Kept.refl _ _)
  have h0I : ((i : Int) == 0) = false := by simp; omega
  rcases opn_cases s with hs | ⟨ho, g1, g2, g5, g6⟩
  · obtain ⟨ho, hfc⟩ := opn_fit (n := n) hs
    have HOF := Lib.hid (fun wx h => rof_any a c L i wx h (by omega))
    cases hcn : cntB s n with
    | false =>
      have HN : Hid (openR L i s n = (L, 1)) := Lib.hid (by unfold openR; rw [if_pos (.inr (.inr (hfc.trans hcn)))])
      generalize openR L i s n = R at *
      rw [hcn] at cC
      have HC := Lib.hid cC
      clear cC hR ho hfc hcn HOF
      rcases hs with rfl | rfl | rfl | rfl
      all_goals
        go_enter Try.func13, Try.ntmps13
        go_wp2_with (go_at_call 21; refine (HC.out _).mono ?_; rintro e w3 ⟨rfl, rfl⟩)
        go_ret2
        exact tabIs_of HN.out ht (Kept.refl _ _)
    | true =>
      have e0 : ¬ (i = 0 ∨ opnB s = false ∨ fitB s n = false) := by rw [ho, hfc, hcn]; simp; exact h0
      rw [hcn] at cC
      have HC := Lib.hid cC
      cases hu : ofL L i with
      | some r =>
        have HN : Hid (openR L i s n = (L, 7)) := Lib.hid (by unfold openR; rw [if_neg e0, hu]; rfl)
        have hri := (ofL_id hu).1
        rw [hu] at HOF
        generalize openR L i s n = R at *
        obtain ⟨id, st, rn⟩ := r
        obtain rfl : id = i := hri
        have HO := Lib.hid (show ∀ wx, Row wx a (RC L) → Calls Try.prog 19 #[.slice a L.length c, .int .u16 id] wx (fun e w' => e = .returned (.agg #[.int .u16 id, .int .i64 st, .int .i64 rn]) ∧ Kept No wx w') from HOF.out)
        have h0J : ((id : Int) != 0) = true := by simp; omega
        have hfd := fun wx => fld0 id st rn wx
        clear cC hR ho hfc hcn HOF e0 hu h0
        rcases hs with rfl | rfl | rfl | rfl
        all_goals
          go_enter Try.func13, Try.ntmps13
          go_wp2_with (first
            | (go_at_call 21; refine (HC.out _).mono ?_; rintro e w3 ⟨rfl, rfl⟩)
            | (go_at_call 19; refine (HO.out _ ht.row).mono ?_; rintro e w3 ⟨rfl, hk3⟩))
          go_ret2
          exact tabIs_of HN.out (ht.keptNo hk3) hk3
      | none =>
        have HN : Hid (openR L i s n = (putR L i (some ⟨i, s, n⟩), 0)) := Lib.hid (by unfold openR; rw [if_neg e0, hu]; rfl)
        rw [hu] at HOF
        generalize openR L i s n = R at *
        have HO := Lib.hid (show ∀ wx, Row wx a (RC L) → Calls Try.prog 19 #[.slice a L.length c, .int .u16 i] wx (fun e w' => e = .returned (.agg #[.int .u16 0, .int .i64 0, .int .i64 0]) ∧ Kept No wx w') from HOF.out)
        have cW := fun wx (h : Row wx a (RC L)) => (rwith_any a c L i ⟨i, s, n⟩ wx h (by omega)).mono (fun e w' h9 => put_tb (x := ⟨i, s, n⟩) hR h9)
        rw [if_neg (show ¬ (⟨i, s, n⟩ : Rw).id = 0 from h0)] at cW
        generalize putR L i (some ⟨i, s, n⟩) = M at *
        have HW := Lib.hid (show ∀ wx, Row wx a (RC L) → Calls Try.prog 26 #[.slice a L.length c, .int .u16 i, .agg #[.int .u16 i, .int .i64 s, .int .i64 n]] wx (PutIs M wx) from cW)
        clear cC hR ho hfc hcn HOF e0 hu h0 cW
        have hfd := fun wx => fld0 0 0 0 wx
        rcases hs with rfl | rfl | rfl | rfl
        all_goals
          go_enter Try.func13, Try.ntmps13
          go_wp2_with (first
            | (go_at_call 21; refine (HC.out _).mono ?_; rintro e w3 ⟨rfl, rfl⟩)
            | (go_at_call 19; refine (HO.out _ ht.row).mono ?_; rintro e w3 ⟨rfl, hk3⟩)
            | (go_at_call 26; refine (HW.out _ (ht.row.keptNo hk3)).mono ?_; rintro e w4 ⟨a4, c4, rfl, ht4, hk4⟩))
          go_ret2
          exact tabIs_of HN.out ht4 (hk3.trans hk4)
  · have HN : Hid (openR L i s n = (L, 1)) := Lib.hid (by unfold openR; rw [if_pos (.inr (.inl ho))])
    generalize openR L i s n = R at *
    have HC := Lib.hid cC
    clear cC hR ho
    go_enter Try.func13, Try.ntmps13
    go_wp2
    go_ret2
    exact tabIs_of HN.out ht (Kept.refl _ _)

end Go.Proofs.Ytlgbljohhnhhkaa
