/-
  Whether two lists of properties are the same: made by mkpxe.py.
-/
import Derived.Test.YtfhcmmmgnkinoaaDoorPxD
namespace Go.Proofs.YtfhcmmmgnkinoaaDoor
open Go.RowKit
set_option linter.unusedVariables false
set_option linter.unusedSimpArgs false
set_option maxRecDepth 100000

theorem take_same {L M : List Pr} {j : Nat} (h : L.take j = M.take j) (h1 : j < L.length) (h2 : j < M.length) (he : L[j] = M[j]) : L.take (j + 1) = M.take (j + 1) := by rw [take_pr h1, take_pr h2, h, he]
theorem ne_at {L M : List Pr} {j : Nat} (h1 : j < L.length) (h2 : j < M.length) (he : L[j] ≠ M[j]) : decide (L = M) = false := by
  refine decide_eq_false fun e => he ?_
  subst e
  rfl

set_option maxHeartbeats 4000000 in
theorem rsame_any (a : Option Addr) (c : Nat) (L : List Pr) (a9 : Option Addr) (c9 : Nat) (M : List Pr) (w : World) (hr : Row w a (PC L)) (hr9 : Row w a9 (PC M)) (hl : L.length ≤ 100000) (hl9 : M.length ≤ 100000) :
    Calls Tryd.prog 19 #[.slice a L.length c, .slice a9 M.length c9] w fun e w' => e = .returned (.bool (decide (L = M))) ∧ Kept No w w' := by
  by_cases hlen : L.length = M.length
  · have HL := Lib.hid hlen
    have hne : ((L.length : Int) != (M.length : Int)) = false := by simp; omega
    clear hlen
    go_enter Tryd.func19, Tryd.ntmps19
    go_wp2
    go_loopw [5] (fun i wr => ∃ j : Nat, i = .int .i64 j ∧ j ≤ L.length ∧ Hid (L.take j = M.take j) ∧ Kept No w wr) (fun i _ => L.length - (intOf i).toNat)
    case atStart => exact ⟨0, rfl, by omega, Lib.hid rfl, Kept.refl _ _⟩
    case round =>
      obtain ⟨j, rfl, hj, HT, hk⟩ := hrel
      by_cases hlt : j < L.length
      · have hlt9 : j < M.length := by rw [← HL.out]; exact hlt
        obtain ⟨b, off, rfl, hb, q0, q1, q2, q3⟩ := (hr.keptNo hk).prop hlt
        obtain ⟨b9, of9, rfl, hb9, r0, r1, r2, r3⟩ := (hr9.keptNo hk).prop hlt9
        have HS := Lib.hid (take_same HT.out hlt hlt9)
        have HN := Lib.hid (ne_at (L := L) (M := M) hlt hlt9)
        generalize L[j] = p at *
        generalize M[j] = q at *
        obtain ⟨i1, n1, a1, b1⟩ := p
        obtain ⟨i2, n2, a2, b2⟩ := q
        dsimp only at q0 q1 q2 q3 r0 r1 r2 r3
        by_cases he : (⟨i1, n1, a1, b1⟩ : Pr) = ⟨i2, n2, a2, b2⟩
        · have HS2 := Lib.hid (HS.out he)
          have hq : ∀ wx, Sem.run Tryd.prog (binOp .neq 58 (.agg #[.int .u8 i1, .int .u32 n1, .string a1, .string b1]) (.agg #[.int .u8 i2, .int .u32 n2, .string a2, .string b2])) wx = .ok (.bool false) wx := fun wx => by rw [neq_r, decide_eq_true he]; rfl
          clear he HS HN
          go_wp2
          refine wp_region_held_drew (S := (fun wx => (wx.cell? ⟨b, off + j * 4, none⟩ = some (.int .u8 i1) ∧ wx.cell? ⟨b, off + j * 4 + 1, none⟩ = some (.int .u32 n1) ∧ wx.cell? ⟨b, off + j * 4 + 2, none⟩ = some (.string a1) ∧ wx.cell? ⟨b, off + j * 4 + 3, none⟩ = some (.string b1)) ∧ (wx.cell? ⟨b9, of9 + j * 4, none⟩ = some (.int .u8 i2) ∧ wx.cell? ⟨b9, of9 + j * 4 + 1, none⟩ = some (.int .u32 n2) ∧ wx.cell? ⟨b9, of9 + j * 4 + 2, none⟩ = some (.string a2) ∧ wx.cell? ⟨b9, of9 + j * 4 + 3, none⟩ = some (.string b2)))) (by kernel_rfl) ?_ (fun hHeld => ?_)
          · exact ⟨⟨q0, q1, q2, q3⟩, ⟨r0, r1, r2, r3⟩⟩
          refine wpAnyH_take (i := 0) (v := ?vvry0) rfl (by kernel_rfl) (by kernel_rfl) (by kernel_rfl) (fun _ _ _ h => h) (Or.inl ⟨by rfl, ?hhry0⟩) (by assumption) ?rrry0
          case hhry0 => (intro wz9 hSw; (try dsimp only at hSw); go_simp; try with_reducible rfl)
          go_simp
          refine wpAnyH_take (i := 1) (v := ?vvry1) rfl (by kernel_rfl) (by kernel_rfl) (by kernel_rfl) (fun _ _ _ h => h) (Or.inl ⟨by rfl, ?hhry1⟩) (by assumption) ?rrry1
          case hhry1 => (intro wz9 hSw; (try dsimp only at hSw); go_simp; try with_reducible rfl)
          go_simp
          refine wpAnyH_take (i := 2) (v := ?vvry2) rfl (by kernel_rfl) (by kernel_rfl) (by kernel_rfl) (fun _ _ _ h => h) (Or.inl ⟨by rfl, ?hhry2⟩) (by assumption) ?rrry2
          case hhry2 => (intro wz9 hSw; (try dsimp only at hSw); go_simp; try with_reducible rfl)
          go_simp
          refine wpAnyH_take (i := 3) (v := (.agg #[.int .u8 i1, .int .u32 n1, .string a1, .string b1])) rfl (by kernel_rfl) (by kernel_rfl) (by kernel_rfl) (fun _ _ _ h => h) (Or.inl ⟨by rfl, ?hhry3⟩) (by assumption) ?rrry3
          case hhry3 => (intro wz9 hSw; (try dsimp only at hSw); go_simp; try with_reducible rfl)
          go_simp
          refine wpAnyH_take (i := 4) (v := ?vvry4) rfl (by kernel_rfl) (by kernel_rfl) (by kernel_rfl) (fun _ _ _ h => h) (Or.inl ⟨by rfl, ?hhry4⟩) (by assumption) ?rrry4
          case hhry4 => (intro wz9 hSw; (try dsimp only at hSw); go_simp; try with_reducible rfl)
          go_simp
          refine wpAnyH_take (i := 5) (v := ?vvry5) rfl (by kernel_rfl) (by kernel_rfl) (by kernel_rfl) (fun _ _ _ h => h) (Or.inl ⟨by rfl, ?hhry5⟩) (by assumption) ?rrry5
          case hhry5 => (intro wz9 hSw; (try dsimp only at hSw); go_simp; try with_reducible rfl)
          go_simp
          refine wpAnyH_take (i := 6) (v := ?vvry6) rfl (by kernel_rfl) (by kernel_rfl) (by kernel_rfl) (fun _ _ _ h => h) (Or.inl ⟨by rfl, ?hhry6⟩) (by assumption) ?rrry6
          case hhry6 => (intro wz9 hSw; (try dsimp only at hSw); go_simp; try with_reducible rfl)
          go_simp
          refine wpAnyH_take (i := 7) (v := (.agg #[.int .u8 i2, .int .u32 n2, .string a2, .string b2])) rfl (by kernel_rfl) (by kernel_rfl) (by kernel_rfl) (fun _ _ _ h => h) (Or.inl ⟨by rfl, ?hhry7⟩) (by assumption) ?rrry7
          case hhry7 => (intro wz9 hSw; (try dsimp only at hSw); go_simp; try with_reducible rfl)
          go_simp
          refine wpAnyH_take (i := 8) (v := (.bool false)) rfl (by kernel_rfl) (by kernel_rfl) (by kernel_rfl) (fun _ _ _ h => h) (Or.inl ⟨by rfl, ?hhry8⟩) (by assumption) ?rrry8
          case hhry8 => (intro wz9 hSw; (try dsimp only at hSw); go_simp; try with_reducible rfl)
          go_simp
          refine wpAnyH_done (by kernel_rfl) ?_ _
          go_wp2
          go_roundw
          case rel => exact ⟨j + 1, by go_num, by omega, HS2, hk.drew⟩
          case measure => simp [intOf]; omega
        · have HN2 := Lib.hid (HN.out he)
          have hq : ∀ wx, Sem.run Tryd.prog (binOp .neq 58 (.agg #[.int .u8 i1, .int .u32 n1, .string a1, .string b1]) (.agg #[.int .u8 i2, .int .u32 n2, .string a2, .string b2])) wx = .ok (.bool true) wx := fun wx => by rw [neq_r, decide_eq_false he]; rfl
          clear he HS HN
          go_wp2
          refine wp_region_held_drew (S := (fun wx => (wx.cell? ⟨b, off + j * 4, none⟩ = some (.int .u8 i1) ∧ wx.cell? ⟨b, off + j * 4 + 1, none⟩ = some (.int .u32 n1) ∧ wx.cell? ⟨b, off + j * 4 + 2, none⟩ = some (.string a1) ∧ wx.cell? ⟨b, off + j * 4 + 3, none⟩ = some (.string b1)) ∧ (wx.cell? ⟨b9, of9 + j * 4, none⟩ = some (.int .u8 i2) ∧ wx.cell? ⟨b9, of9 + j * 4 + 1, none⟩ = some (.int .u32 n2) ∧ wx.cell? ⟨b9, of9 + j * 4 + 2, none⟩ = some (.string a2) ∧ wx.cell? ⟨b9, of9 + j * 4 + 3, none⟩ = some (.string b2)))) (by kernel_rfl) ?_ (fun hHeld => ?_)
          · exact ⟨⟨q0, q1, q2, q3⟩, ⟨r0, r1, r2, r3⟩⟩
          refine wpAnyH_take (i := 0) (v := ?vvrn0) rfl (by kernel_rfl) (by kernel_rfl) (by kernel_rfl) (fun _ _ _ h => h) (Or.inl ⟨by rfl, ?hhrn0⟩) (by assumption) ?rrrn0
          case hhrn0 => (intro wz9 hSw; (try dsimp only at hSw); go_simp; try with_reducible rfl)
          go_simp
          refine wpAnyH_take (i := 1) (v := ?vvrn1) rfl (by kernel_rfl) (by kernel_rfl) (by kernel_rfl) (fun _ _ _ h => h) (Or.inl ⟨by rfl, ?hhrn1⟩) (by assumption) ?rrrn1
          case hhrn1 => (intro wz9 hSw; (try dsimp only at hSw); go_simp; try with_reducible rfl)
          go_simp
          refine wpAnyH_take (i := 2) (v := ?vvrn2) rfl (by kernel_rfl) (by kernel_rfl) (by kernel_rfl) (fun _ _ _ h => h) (Or.inl ⟨by rfl, ?hhrn2⟩) (by assumption) ?rrrn2
          case hhrn2 => (intro wz9 hSw; (try dsimp only at hSw); go_simp; try with_reducible rfl)
          go_simp
          refine wpAnyH_take (i := 3) (v := (.agg #[.int .u8 i1, .int .u32 n1, .string a1, .string b1])) rfl (by kernel_rfl) (by kernel_rfl) (by kernel_rfl) (fun _ _ _ h => h) (Or.inl ⟨by rfl, ?hhrn3⟩) (by assumption) ?rrrn3
          case hhrn3 => (intro wz9 hSw; (try dsimp only at hSw); go_simp; try with_reducible rfl)
          go_simp
          refine wpAnyH_take (i := 4) (v := ?vvrn4) rfl (by kernel_rfl) (by kernel_rfl) (by kernel_rfl) (fun _ _ _ h => h) (Or.inl ⟨by rfl, ?hhrn4⟩) (by assumption) ?rrrn4
          case hhrn4 => (intro wz9 hSw; (try dsimp only at hSw); go_simp; try with_reducible rfl)
          go_simp
          refine wpAnyH_take (i := 5) (v := ?vvrn5) rfl (by kernel_rfl) (by kernel_rfl) (by kernel_rfl) (fun _ _ _ h => h) (Or.inl ⟨by rfl, ?hhrn5⟩) (by assumption) ?rrrn5
          case hhrn5 => (intro wz9 hSw; (try dsimp only at hSw); go_simp; try with_reducible rfl)
          go_simp
          refine wpAnyH_take (i := 6) (v := ?vvrn6) rfl (by kernel_rfl) (by kernel_rfl) (by kernel_rfl) (fun _ _ _ h => h) (Or.inl ⟨by rfl, ?hhrn6⟩) (by assumption) ?rrrn6
          case hhrn6 => (intro wz9 hSw; (try dsimp only at hSw); go_simp; try with_reducible rfl)
          go_simp
          refine wpAnyH_take (i := 7) (v := (.agg #[.int .u8 i2, .int .u32 n2, .string a2, .string b2])) rfl (by kernel_rfl) (by kernel_rfl) (by kernel_rfl) (fun _ _ _ h => h) (Or.inl ⟨by rfl, ?hhrn7⟩) (by assumption) ?rrrn7
          case hhrn7 => (intro wz9 hSw; (try dsimp only at hSw); go_simp; try with_reducible rfl)
          go_simp
          refine wpAnyH_take (i := 8) (v := (.bool true)) rfl (by kernel_rfl) (by kernel_rfl) (by kernel_rfl) (fun _ _ _ h => h) (Or.inl ⟨by rfl, ?hhrn8⟩) (by assumption) ?rrrn8
          case hhrn8 => (intro wz9 hSw; (try dsimp only at hSw); go_simp; try with_reducible rfl)
          go_simp
          refine wpAnyH_done (by kernel_rfl) ?_ _
          go_wp2
          go_ret
          exact ⟨by rw [HN2.out]; rfl, hk.drew⟩
      · have HE : Hid (decide (L = M) = true) := Lib.hid (by
          have := HT.out
          have h9 := HL.out
          rw [List.take_of_length_le (by omega), List.take_of_length_le (by omega)] at this
          exact decide_eq_true this)
        go_wp2
        go_ret
        exact ⟨by rw [HE.out]; rfl, hk⟩
  · have hne : ((L.length : Int) != (M.length : Int)) = true := by simp; omega
    have HE : Hid (decide (L = M) = false) := Lib.hid (decide_eq_false fun e => hlen (by rw [e]))
    generalize decide (L = M) = DD at *
    clear hlen
    go_enter Tryd.func19, Tryd.ntmps19
    go_wp2
    go_ret
    exact ⟨by rw [HE.out]; rfl, Kept.refl _ _⟩

set_option maxHeartbeats 4000000 in
theorem pequal_any (a : Option Addr) (c : Nat) (L : List Pr) (a9 : Option Addr) (c9 : Nat) (M : List Pr) (w : World) (hr : Row w a (PC L)) (hr9 : Row w a9 (PC M)) (hl : L.length ≤ 100000) (hl9 : M.length ≤ 100000) :
    Calls Tryd.prog 72 #[.slice a L.length c, .slice a9 M.length c9] w fun e w' => e = .returned (.bool (decide (L = M))) ∧ Kept No w w' := by
  by_cases hlen : L.length = M.length
  · have HL := Lib.hid hlen
    have hne : ((L.length : Int) != (M.length : Int)) = false := by simp; omega
    clear hlen
    go_enter Tryd.func72, Tryd.ntmps72
    go_wp2
    go_loopw [13] (fun i wr => ∃ j : Nat, i = .int .i64 j ∧ j ≤ L.length ∧ Hid (L.take j = M.take j) ∧ Kept No w wr) (fun i _ => L.length - (intOf i).toNat)
    case atStart => exact ⟨0, rfl, by omega, Lib.hid rfl, Kept.refl _ _⟩
    case round =>
      obtain ⟨j, rfl, hj, HT, hk⟩ := hrel
      by_cases hlt : j < L.length
      · have hlt9 : j < M.length := by rw [← HL.out]; exact hlt
        obtain ⟨b, off, rfl, hb, q0, q1, q2, q3⟩ := (hr.keptNo hk).prop hlt
        obtain ⟨b9, of9, rfl, hb9, r0, r1, r2, r3⟩ := (hr9.keptNo hk).prop hlt9
        have HS := Lib.hid (take_same HT.out hlt hlt9)
        have HN := Lib.hid (ne_at (L := L) (M := M) hlt hlt9)
        generalize L[j] = p at *
        generalize M[j] = q at *
        obtain ⟨i1, n1, a1, b1⟩ := p
        obtain ⟨i2, n2, a2, b2⟩ := q
        dsimp only at q0 q1 q2 q3 r0 r1 r2 r3
        by_cases he : (⟨i1, n1, a1, b1⟩ : Pr) = ⟨i2, n2, a2, b2⟩
        · have HS2 := Lib.hid (HS.out he)
          have hq : ∀ wx, Sem.run Tryd.prog (binOp .neq 55 (.agg #[.int .u8 i1, .int .u32 n1, .string a1, .string b1]) (.agg #[.int .u8 i2, .int .u32 n2, .string a2, .string b2])) wx = .ok (.bool false) wx := fun wx => by rw [neq_p, decide_eq_true he]; rfl
          clear he HS HN
          go_wp2
          refine wp_region_held_drew (S := (fun wx => (wx.cell? ⟨b, off + j * 4, none⟩ = some (.int .u8 i1) ∧ wx.cell? ⟨b, off + j * 4 + 1, none⟩ = some (.int .u32 n1) ∧ wx.cell? ⟨b, off + j * 4 + 2, none⟩ = some (.string a1) ∧ wx.cell? ⟨b, off + j * 4 + 3, none⟩ = some (.string b1)) ∧ (wx.cell? ⟨b9, of9 + j * 4, none⟩ = some (.int .u8 i2) ∧ wx.cell? ⟨b9, of9 + j * 4 + 1, none⟩ = some (.int .u32 n2) ∧ wx.cell? ⟨b9, of9 + j * 4 + 2, none⟩ = some (.string a2) ∧ wx.cell? ⟨b9, of9 + j * 4 + 3, none⟩ = some (.string b2)))) (by kernel_rfl) ?_ (fun hHeld => ?_)
          · exact ⟨⟨q0, q1, q2, q3⟩, ⟨r0, r1, r2, r3⟩⟩
          refine wpAnyH_take (i := 0) (v := ?vvpy0) rfl (by kernel_rfl) (by kernel_rfl) (by kernel_rfl) (fun _ _ _ h => h) (Or.inl ⟨by rfl, ?hhpy0⟩) (by assumption) ?rrpy0
          case hhpy0 => (intro wz9 hSw; (try dsimp only at hSw); go_simp; try with_reducible rfl)
          go_simp
          refine wpAnyH_take (i := 1) (v := ?vvpy1) rfl (by kernel_rfl) (by kernel_rfl) (by kernel_rfl) (fun _ _ _ h => h) (Or.inl ⟨by rfl, ?hhpy1⟩) (by assumption) ?rrpy1
          case hhpy1 => (intro wz9 hSw; (try dsimp only at hSw); go_simp; try with_reducible rfl)
          go_simp
          refine wpAnyH_take (i := 2) (v := ?vvpy2) rfl (by kernel_rfl) (by kernel_rfl) (by kernel_rfl) (fun _ _ _ h => h) (Or.inl ⟨by rfl, ?hhpy2⟩) (by assumption) ?rrpy2
          case hhpy2 => (intro wz9 hSw; (try dsimp only at hSw); go_simp; try with_reducible rfl)
          go_simp
          refine wpAnyH_take (i := 3) (v := (.agg #[.int .u8 i1, .int .u32 n1, .string a1, .string b1])) rfl (by kernel_rfl) (by kernel_rfl) (by kernel_rfl) (fun _ _ _ h => h) (Or.inl ⟨by rfl, ?hhpy3⟩) (by assumption) ?rrpy3
          case hhpy3 => (intro wz9 hSw; (try dsimp only at hSw); go_simp; try with_reducible rfl)
          go_simp
          refine wpAnyH_take (i := 4) (v := ?vvpy4) rfl (by kernel_rfl) (by kernel_rfl) (by kernel_rfl) (fun _ _ _ h => h) (Or.inl ⟨by rfl, ?hhpy4⟩) (by assumption) ?rrpy4
          case hhpy4 => (intro wz9 hSw; (try dsimp only at hSw); go_simp; try with_reducible rfl)
          go_simp
          refine wpAnyH_take (i := 5) (v := ?vvpy5) rfl (by kernel_rfl) (by kernel_rfl) (by kernel_rfl) (fun _ _ _ h => h) (Or.inl ⟨by rfl, ?hhpy5⟩) (by assumption) ?rrpy5
          case hhpy5 => (intro wz9 hSw; (try dsimp only at hSw); go_simp; try with_reducible rfl)
          go_simp
          refine wpAnyH_take (i := 6) (v := ?vvpy6) rfl (by kernel_rfl) (by kernel_rfl) (by kernel_rfl) (fun _ _ _ h => h) (Or.inl ⟨by rfl, ?hhpy6⟩) (by assumption) ?rrpy6
          case hhpy6 => (intro wz9 hSw; (try dsimp only at hSw); go_simp; try with_reducible rfl)
          go_simp
          refine wpAnyH_take (i := 7) (v := (.agg #[.int .u8 i2, .int .u32 n2, .string a2, .string b2])) rfl (by kernel_rfl) (by kernel_rfl) (by kernel_rfl) (fun _ _ _ h => h) (Or.inl ⟨by rfl, ?hhpy7⟩) (by assumption) ?rrpy7
          case hhpy7 => (intro wz9 hSw; (try dsimp only at hSw); go_simp; try with_reducible rfl)
          go_simp
          refine wpAnyH_take (i := 8) (v := (.bool false)) rfl (by kernel_rfl) (by kernel_rfl) (by kernel_rfl) (fun _ _ _ h => h) (Or.inl ⟨by rfl, ?hhpy8⟩) (by assumption) ?rrpy8
          case hhpy8 => (intro wz9 hSw; (try dsimp only at hSw); go_simp; try with_reducible rfl)
          go_simp
          refine wpAnyH_done (by kernel_rfl) ?_ _
          go_wp2
          go_roundw
          case rel => exact ⟨j + 1, by go_num, by omega, HS2, hk.drew⟩
          case measure => simp [intOf]; omega
        · have HN2 := Lib.hid (HN.out he)
          have hq : ∀ wx, Sem.run Tryd.prog (binOp .neq 55 (.agg #[.int .u8 i1, .int .u32 n1, .string a1, .string b1]) (.agg #[.int .u8 i2, .int .u32 n2, .string a2, .string b2])) wx = .ok (.bool true) wx := fun wx => by rw [neq_p, decide_eq_false he]; rfl
          clear he HS HN
          go_wp2
          refine wp_region_held_drew (S := (fun wx => (wx.cell? ⟨b, off + j * 4, none⟩ = some (.int .u8 i1) ∧ wx.cell? ⟨b, off + j * 4 + 1, none⟩ = some (.int .u32 n1) ∧ wx.cell? ⟨b, off + j * 4 + 2, none⟩ = some (.string a1) ∧ wx.cell? ⟨b, off + j * 4 + 3, none⟩ = some (.string b1)) ∧ (wx.cell? ⟨b9, of9 + j * 4, none⟩ = some (.int .u8 i2) ∧ wx.cell? ⟨b9, of9 + j * 4 + 1, none⟩ = some (.int .u32 n2) ∧ wx.cell? ⟨b9, of9 + j * 4 + 2, none⟩ = some (.string a2) ∧ wx.cell? ⟨b9, of9 + j * 4 + 3, none⟩ = some (.string b2)))) (by kernel_rfl) ?_ (fun hHeld => ?_)
          · exact ⟨⟨q0, q1, q2, q3⟩, ⟨r0, r1, r2, r3⟩⟩
          refine wpAnyH_take (i := 0) (v := ?vvpn0) rfl (by kernel_rfl) (by kernel_rfl) (by kernel_rfl) (fun _ _ _ h => h) (Or.inl ⟨by rfl, ?hhpn0⟩) (by assumption) ?rrpn0
          case hhpn0 => (intro wz9 hSw; (try dsimp only at hSw); go_simp; try with_reducible rfl)
          go_simp
          refine wpAnyH_take (i := 1) (v := ?vvpn1) rfl (by kernel_rfl) (by kernel_rfl) (by kernel_rfl) (fun _ _ _ h => h) (Or.inl ⟨by rfl, ?hhpn1⟩) (by assumption) ?rrpn1
          case hhpn1 => (intro wz9 hSw; (try dsimp only at hSw); go_simp; try with_reducible rfl)
          go_simp
          refine wpAnyH_take (i := 2) (v := ?vvpn2) rfl (by kernel_rfl) (by kernel_rfl) (by kernel_rfl) (fun _ _ _ h => h) (Or.inl ⟨by rfl, ?hhpn2⟩) (by assumption) ?rrpn2
          case hhpn2 => (intro wz9 hSw; (try dsimp only at hSw); go_simp; try with_reducible rfl)
          go_simp
          refine wpAnyH_take (i := 3) (v := (.agg #[.int .u8 i1, .int .u32 n1, .string a1, .string b1])) rfl (by kernel_rfl) (by kernel_rfl) (by kernel_rfl) (fun _ _ _ h => h) (Or.inl ⟨by rfl, ?hhpn3⟩) (by assumption) ?rrpn3
          case hhpn3 => (intro wz9 hSw; (try dsimp only at hSw); go_simp; try with_reducible rfl)
          go_simp
          refine wpAnyH_take (i := 4) (v := ?vvpn4) rfl (by kernel_rfl) (by kernel_rfl) (by kernel_rfl) (fun _ _ _ h => h) (Or.inl ⟨by rfl, ?hhpn4⟩) (by assumption) ?rrpn4
          case hhpn4 => (intro wz9 hSw; (try dsimp only at hSw); go_simp; try with_reducible rfl)
          go_simp
          refine wpAnyH_take (i := 5) (v := ?vvpn5) rfl (by kernel_rfl) (by kernel_rfl) (by kernel_rfl) (fun _ _ _ h => h) (Or.inl ⟨by rfl, ?hhpn5⟩) (by assumption) ?rrpn5
          case hhpn5 => (intro wz9 hSw; (try dsimp only at hSw); go_simp; try with_reducible rfl)
          go_simp
          refine wpAnyH_take (i := 6) (v := ?vvpn6) rfl (by kernel_rfl) (by kernel_rfl) (by kernel_rfl) (fun _ _ _ h => h) (Or.inl ⟨by rfl, ?hhpn6⟩) (by assumption) ?rrpn6
          case hhpn6 => (intro wz9 hSw; (try dsimp only at hSw); go_simp; try with_reducible rfl)
          go_simp
          refine wpAnyH_take (i := 7) (v := (.agg #[.int .u8 i2, .int .u32 n2, .string a2, .string b2])) rfl (by kernel_rfl) (by kernel_rfl) (by kernel_rfl) (fun _ _ _ h => h) (Or.inl ⟨by rfl, ?hhpn7⟩) (by assumption) ?rrpn7
          case hhpn7 => (intro wz9 hSw; (try dsimp only at hSw); go_simp; try with_reducible rfl)
          go_simp
          refine wpAnyH_take (i := 8) (v := (.bool true)) rfl (by kernel_rfl) (by kernel_rfl) (by kernel_rfl) (fun _ _ _ h => h) (Or.inl ⟨by rfl, ?hhpn8⟩) (by assumption) ?rrpn8
          case hhpn8 => (intro wz9 hSw; (try dsimp only at hSw); go_simp; try with_reducible rfl)
          go_simp
          refine wpAnyH_done (by kernel_rfl) ?_ _
          go_wp2
          go_ret
          exact ⟨by rw [HN2.out]; rfl, hk.drew⟩
      · have HE : Hid (decide (L = M) = true) := Lib.hid (by
          have := HT.out
          have h9 := HL.out
          rw [List.take_of_length_le (by omega), List.take_of_length_le (by omega)] at this
          exact decide_eq_true this)
        go_wp2
        go_ret
        exact ⟨by rw [HE.out]; rfl, hk⟩
  · have hne : ((L.length : Int) != (M.length : Int)) = true := by simp; omega
    have HE : Hid (decide (L = M) = false) := Lib.hid (decide_eq_false fun e => hlen (by rw [e]))
    generalize decide (L = M) = DD at *
    clear hlen
    go_enter Tryd.func72, Tryd.ntmps72
    go_wp2
    go_ret
    exact ⟨by rw [HE.out]; rfl, Kept.refl _ _⟩

theorem psame_any (a : Option Addr) (c : Nat) (L : List Pr) (a9 : Option Addr) (c9 : Nat) (M : List Pr) (w : World) (hr : Row w a (PC L)) (hr9 : Row w a9 (PC M)) (hl : L.length ≤ 100000) (hl9 : M.length ≤ 100000) :
    Calls Tryd.prog 33 #[.slice a L.length c, .slice a9 M.length c9] w fun e w' => e = .returned (.bool (decide (L = M))) ∧ Kept No w w' := by
  have HE := Lib.hid (fun wx h1 h2 => pequal_any a c L a9 c9 M wx h1 h2 hl hl9)
  generalize decide (L = M) = DD at *
  go_enter Tryd.func33, Tryd.ntmps33
  go_wp2_with (go_at_call 72; refine (HE.out _ hr hr9).mono ?_; rintro e w1 ⟨rfl, hk⟩)
  go_ret
  exact ⟨rfl, hk⟩

end Go.Proofs.YtfhcmmmgnkinoaaDoor
