/-
  Whether two lists of numbers in use are the same: made by mkidd.py.
-/
import Derived.Test.YtlgbljohhnhhkaaIdC
import Derived.Deep.RegionHeld3
namespace Go.Proofs.Ytlgbljohhnhhkaa
open Go.RowKit
set_option linter.unusedVariables false
set_option linter.unusedSimpArgs false
set_option maxRecDepth 100000

theorem take_same {L M : List Rw} {j : Nat} (h : L.take j = M.take j) (h1 : j < L.length) (h2 : j < M.length) (he : L[j] = M[j]) : L.take (j + 1) = M.take (j + 1) := by rw [take_rw h1, take_rw h2, h, he]
theorem ne_at {L M : List Rw} {j : Nat} (h1 : j < L.length) (h2 : j < M.length) (he : L[j] ≠ M[j]) : decide (L = M) = false := by
  refine decide_eq_false fun e => he ?_
  subst e
  rfl
set_option maxHeartbeats 4000000 in
theorem rsame_any (a : Option Addr) (c : Nat) (L : List Rw) (a9 : Option Addr) (c9 : Nat) (M : List Rw) (w : World) (hr : Row w a (RC L)) (hr9 : Row w a9 (RC M)) (hl : L.length ≤ 100000) (hl9 : M.length ≤ 100000) :
    Calls Try.prog 16 #[.slice a L.length c, .slice a9 M.length c9] w (RightIs (decide (L = M)) w) := by
  by_cases hlen : L.length = M.length
  · have HL := Lib.hid hlen
    have hne : ((L.length : Int) != (M.length : Int)) = false := by simp; omega
    clear hlen
    go_enter Try.func16, Try.ntmps16
    go_wp2
    go_loopw [5] (fun i wr => ∃ j : Nat, i = .int .i64 j ∧ j ≤ L.length ∧ Hid (L.take j = M.take j) ∧ Kept No w wr) (fun i _ => L.length - (intOf i).toNat)
    case atStart => exact ⟨0, rfl, by omega, Lib.hid rfl, Kept.refl _ _⟩
    case round =>
      obtain ⟨j, rfl, hj, HT, hk⟩ := hrel
      by_cases hlt : j < L.length
      · have hlt9 : j < M.length := by rw [← HL.out]; exact hlt
        obtain ⟨b, off, rfl, hb, q0, q1, q2⟩ := hr.rw3 hlt
        obtain ⟨b9, of9, rfl, hb9, r0, r1, r2⟩ := hr9.rw3 hlt9
        have HS := Lib.hid (take_same HT.out hlt hlt9)
        have HN := Lib.hid (ne_at (L := L) (M := M) hlt hlt9)
        generalize L[j] = p at *
        generalize M[j] = q at *
        obtain ⟨i1, s1, n1⟩ := p
        obtain ⟨i2, s2, n2⟩ := q
        dsimp only at q0 q1 q2 r0 r1 r2
        have HQ := Lib.hid (And.intro q0 (And.intro q1 q2))
        have HQ9 := Lib.hid (And.intro r0 (And.intro r1 r2))
        clear q0 q1 q2 r0 r1 r2
        by_cases he : (⟨i1, s1, n1⟩ : Rw) = ⟨i2, s2, n2⟩
        · have HS2 := Lib.hid (HS.out he)
          injection he with e1 e2 e3
          subst e1 e2 e3
          clear HS HN
          go_wp2
          refine wp_region_held_drew (S := (fun wx => Kept No w wx)) (by kernel_rfl) ?_ (fun hHeld => ?_)
          · exact hk.drew
          refine wpAnyH_take (i := 0) (v := (.slice (some ⟨b, off, none⟩) L.length c)) rfl (by kernel_rfl) (by kernel_rfl) (by kernel_rfl) (fun _ _ _ h => h) (Or.inl ⟨by rfl, ?hhsa0⟩) (by assumption) ?rrsa0
          case hhsa0 => (intro wz9 hSw; (try dsimp only at hSw); go_simp; try with_reducible rfl)
          go_simp
          refine wpAnyH_take (i := 1) (v := (.int .i64 (j : Int))) rfl (by kernel_rfl) (by kernel_rfl) (by kernel_rfl) (fun _ _ _ h => h) (Or.inl ⟨by rfl, ?hhsa1⟩) (by assumption) ?rrsa1
          case hhsa1 => (intro wz9 hSw; (try dsimp only at hSw); go_simp; try with_reducible rfl)
          go_simp
          refine wpAnyH_take (i := 2) (v := (.pointer (some ⟨b, off + j * 3, none⟩))) rfl (by kernel_rfl) (by kernel_rfl) (by kernel_rfl) (fun _ _ _ h => h) (Or.inl ⟨by rfl, ?hhsa2⟩) (by assumption) ?rrsa2
          case hhsa2 => (intro wz9 hSw; (try dsimp only at hSw); go_simp; try with_reducible rfl)
          go_simp
          refine wpAnyH_take (i := 3) (v := (.agg #[.int .u16 (i1 : Int), .int .i64 s1, .int .i64 n1])) rfl (by kernel_rfl) (by kernel_rfl) (by kernel_rfl) (fun _ _ _ h => h) (Or.inl ⟨by rfl, ?hhsa3⟩) (by assumption) ?rrsa3
          case hhsa3 => (intro wz9 hSw; have z0 := (hSw.cell (p := ⟨b, off + j * 3, none⟩) hb (fun f => f)).trans HQ.out.1; have z1 := (hSw.cell (p := ⟨b, off + j * 3 + 1, none⟩) hb (fun f => f)).trans HQ.out.2.1; have z2 := (hSw.cell (p := ⟨b, off + j * 3 + 2, none⟩) hb (fun f => f)).trans HQ.out.2.2; clear hSw; go_simp; try with_reducible rfl)
          go_simp
          refine wpAnyH_take (i := 4) (v := (.slice (some ⟨b9, of9, none⟩) M.length c9)) rfl (by kernel_rfl) (by kernel_rfl) (by kernel_rfl) (fun _ _ _ h => h) (Or.inl ⟨by rfl, ?hhsa4⟩) (by assumption) ?rrsa4
          case hhsa4 => (intro wz9 hSw; (try dsimp only at hSw); go_simp; try with_reducible rfl)
          go_simp
          refine wpAnyH_take (i := 5) (v := (.int .i64 (j : Int))) rfl (by kernel_rfl) (by kernel_rfl) (by kernel_rfl) (fun _ _ _ h => h) (Or.inl ⟨by rfl, ?hhsa5⟩) (by assumption) ?rrsa5
          case hhsa5 => (intro wz9 hSw; (try dsimp only at hSw); go_simp; try with_reducible rfl)
          go_simp
          refine wpAnyH_take (i := 6) (v := (.pointer (some ⟨b9, of9 + j * 3, none⟩))) rfl (by kernel_rfl) (by kernel_rfl) (by kernel_rfl) (fun _ _ _ h => h) (Or.inl ⟨by rfl, ?hhsa6⟩) (by assumption) ?rrsa6
          case hhsa6 => (intro wz9 hSw; (try dsimp only at hSw); go_simp; try with_reducible rfl)
          go_simp
          refine wpAnyH_take (i := 7) (v := (.agg #[.int .u16 (i1 : Int), .int .i64 s1, .int .i64 n1])) rfl (by kernel_rfl) (by kernel_rfl) (by kernel_rfl) (fun _ _ _ h => h) (Or.inl ⟨by rfl, ?hhsa7⟩) (by assumption) ?rrsa7
          case hhsa7 => (intro wz9 hSw; have z0 := (hSw.cell (p := ⟨b9, of9 + j * 3, none⟩) hb9 (fun f => f)).trans HQ9.out.1; have z1 := (hSw.cell (p := ⟨b9, of9 + j * 3 + 1, none⟩) hb9 (fun f => f)).trans HQ9.out.2.1; have z2 := (hSw.cell (p := ⟨b9, of9 + j * 3 + 2, none⟩) hb9 (fun f => f)).trans HQ9.out.2.2; clear hSw; go_simp; try with_reducible rfl)
          go_simp
          refine wpAnyH_take (i := 8) (v := (.bool false)) rfl (by kernel_rfl) (by kernel_rfl) (by kernel_rfl) (fun _ _ _ h => h) (Or.inl ⟨by rfl, ?hhsa8⟩) (by assumption) ?rrsa8
          case hhsa8 => (intro wz9 hSw; clear hSw; go_simp; first | done | (intro x9 y9 z9; exact HNE.out ⟨by omega, y9, z9⟩) | trace_state)
          go_simp
          refine wpAnyH_done (by kernel_rfl) ?_ _
          go_wp2
          go_roundw
          case rel => exact ⟨j + 1, by go_num, by omega, HS2, hHeld⟩
          case measure => simp [intOf]; omega
        · have HN2 := Lib.hid (HN.out he)
          have HNE : Hid (¬ (i1 = i2 ∧ s1 = s2 ∧ n1 = n2)) := Lib.hid fun h => he (by rw [h.1, h.2.1, h.2.2])
          clear he HS HN
          go_wp2
          refine wp_region_held_drew (S := (fun wx => Kept No w wx)) (by kernel_rfl) ?_ (fun hHeld => ?_)
          · exact hk.drew
          refine wpAnyH_take (i := 0) (v := (.slice (some ⟨b, off, none⟩) L.length c)) rfl (by kernel_rfl) (by kernel_rfl) (by kernel_rfl) (fun _ _ _ h => h) (Or.inl ⟨by rfl, ?hhsb0⟩) (by assumption) ?rrsb0
          case hhsb0 => (intro wz9 hSw; (try dsimp only at hSw); go_simp; try with_reducible rfl)
          go_simp
          refine wpAnyH_take (i := 1) (v := (.int .i64 (j : Int))) rfl (by kernel_rfl) (by kernel_rfl) (by kernel_rfl) (fun _ _ _ h => h) (Or.inl ⟨by rfl, ?hhsb1⟩) (by assumption) ?rrsb1
          case hhsb1 => (intro wz9 hSw; (try dsimp only at hSw); go_simp; try with_reducible rfl)
          go_simp
          refine wpAnyH_take (i := 2) (v := (.pointer (some ⟨b, off + j * 3, none⟩))) rfl (by kernel_rfl) (by kernel_rfl) (by kernel_rfl) (fun _ _ _ h => h) (Or.inl ⟨by rfl, ?hhsb2⟩) (by assumption) ?rrsb2
          case hhsb2 => (intro wz9 hSw; (try dsimp only at hSw); go_simp; try with_reducible rfl)
          go_simp
          refine wpAnyH_take (i := 3) (v := (.agg #[.int .u16 (i1 : Int), .int .i64 s1, .int .i64 n1])) rfl (by kernel_rfl) (by kernel_rfl) (by kernel_rfl) (fun _ _ _ h => h) (Or.inl ⟨by rfl, ?hhsb3⟩) (by assumption) ?rrsb3
          case hhsb3 => (intro wz9 hSw; have z0 := (hSw.cell (p := ⟨b, off + j * 3, none⟩) hb (fun f => f)).trans HQ.out.1; have z1 := (hSw.cell (p := ⟨b, off + j * 3 + 1, none⟩) hb (fun f => f)).trans HQ.out.2.1; have z2 := (hSw.cell (p := ⟨b, off + j * 3 + 2, none⟩) hb (fun f => f)).trans HQ.out.2.2; clear hSw; go_simp; try with_reducible rfl)
          go_simp
          refine wpAnyH_take (i := 4) (v := (.slice (some ⟨b9, of9, none⟩) M.length c9)) rfl (by kernel_rfl) (by kernel_rfl) (by kernel_rfl) (fun _ _ _ h => h) (Or.inl ⟨by rfl, ?hhsb4⟩) (by assumption) ?rrsb4
          case hhsb4 => (intro wz9 hSw; (try dsimp only at hSw); go_simp; try with_reducible rfl)
          go_simp
          refine wpAnyH_take (i := 5) (v := (.int .i64 (j : Int))) rfl (by kernel_rfl) (by kernel_rfl) (by kernel_rfl) (fun _ _ _ h => h) (Or.inl ⟨by rfl, ?hhsb5⟩) (by assumption) ?rrsb5
          case hhsb5 => (intro wz9 hSw; (try dsimp only at hSw); go_simp; try with_reducible rfl)
          go_simp
          refine wpAnyH_take (i := 6) (v := (.pointer (some ⟨b9, of9 + j * 3, none⟩))) rfl (by kernel_rfl) (by kernel_rfl) (by kernel_rfl) (fun _ _ _ h => h) (Or.inl ⟨by rfl, ?hhsb6⟩) (by assumption) ?rrsb6
          case hhsb6 => (intro wz9 hSw; (try dsimp only at hSw); go_simp; try with_reducible rfl)
          go_simp
          refine wpAnyH_take (i := 7) (v := (.agg #[.int .u16 (i2 : Int), .int .i64 s2, .int .i64 n2])) rfl (by kernel_rfl) (by kernel_rfl) (by kernel_rfl) (fun _ _ _ h => h) (Or.inl ⟨by rfl, ?hhsb7⟩) (by assumption) ?rrsb7
          case hhsb7 => (intro wz9 hSw; have z0 := (hSw.cell (p := ⟨b9, of9 + j * 3, none⟩) hb9 (fun f => f)).trans HQ9.out.1; have z1 := (hSw.cell (p := ⟨b9, of9 + j * 3 + 1, none⟩) hb9 (fun f => f)).trans HQ9.out.2.1; have z2 := (hSw.cell (p := ⟨b9, of9 + j * 3 + 2, none⟩) hb9 (fun f => f)).trans HQ9.out.2.2; clear hSw; go_simp; try with_reducible rfl)
          go_simp
          refine wpAnyH_take (i := 8) (v := (.bool true)) rfl (by kernel_rfl) (by kernel_rfl) (by kernel_rfl) (fun _ _ _ h => h) (Or.inl ⟨by rfl, ?hhsb8⟩) (by assumption) ?rrsb8
          case hhsb8 => (intro wz9 hSw; clear hSw; go_simp; first | done | (intro x9 y9 z9; exact HNE.out ⟨by omega, y9, z9⟩) | trace_state)
          go_simp
          refine wpAnyH_done (by kernel_rfl) ?_ _
          go_wp2
          go_ret
          exact ⟨by rw [HN2.out]; rfl, hHeld⟩
      · have HE : Hid (decide (L = M) = true) := Lib.hid (by
          have := HT.out
          have h9 := HL.out
          rw [List.take_of_length_le (by omega), List.take_of_length_le (by omega)] at this
          exact decide_eq_true this)
        go_wp2
        go_ret
        exact ⟨by rw [HE.out]; rfl, hk⟩
  · have hne : ((L.length : Int) != (M.length : Int)) = true := by simp; omega
    have HE : Hid (decide (L = M) = false) := Lib.hid (decide_eq_false fun e => hlen (by rw [e]))
    generalize decide (L = M) = DD at *
    clear hlen
    go_enter Try.func16, Try.ntmps16
    go_wp2
    go_ret
    exact ⟨by rw [HE.out]; rfl, Kept.refl _ _⟩

end Go.Proofs.Ytlgbljohhnhhkaa
