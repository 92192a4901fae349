/-
  Lists of numbers in use, as the program has them and back: made by mkidd.py.
-/
import Derived.Test.YtlgbljohhnhhkaaIdC
import Derived.Deep.RegionHeld3
namespace Go.Proofs.Ytlgbljohhnhhkaa
open Go.RowKit
set_option linter.unusedVariables false
set_option linter.unusedSimpArgs false
set_option maxRecDepth 100000

theorem own_form {w : World} {base n size : Nat} {e : TypeId} {v : Value} {xs : List Value} (h : w.ownsRow base e size v n xs) : ∃ a c, v = .slice a n c ∧ Row w a xs ∧ (a = none → n = 0 ∧ c = 0) := by
  rcases h.2 with ⟨hv, h0⟩ | ⟨g, cap, cur, hv, _⟩
  · subst hv h0
    exact ⟨none, 0, rfl, (own_row h).1, fun _ => ⟨rfl, rfl⟩⟩
  · subst hv
    exact ⟨_, _, rfl, (own_row h).1, fun h => by cases h⟩
/-- An append, where a region draws its order. -/
theorem op_appendN {P : Program} {o : Oper} {a : Act} {w w' : World} {K : Act → World → Prop} {Q : Exit → Act → World → Prop} (s x : Operand) (t : TypeId) {v u v' : Value} (hop : o.op = Op.call { callee := Callee.builtin Builtin.append, args := #[s, x], argTypes := #[t, t] })
    (hs : a.eval s = v) (hx : a.eval x = u) (hrun : (Builtin.append_ #[t, t] o.type #[v, u]).run P w = .ok v' w') (hK : K (a.put o.dst v') w') : o.wp P a w K Q := by
  unfold Oper.wp
  simp [execOp, hop, resolve, invoke, builtin, hs, hx, hrun, Result.andThen]
  exact hK

set_option maxHeartbeats 4000000 in
theorem ito_any (a : Option Addr) (c : Nat) (L : List Rw) (w : World) (hr : Row w a (RC L)) (hl : L.length ≤ 100000) :
    Calls Try.prog 9 #[.slice a L.length c] w (OwnR 55 w L) := by
  obtain ⟨i0, hi, hz0, hz1, hz2⟩ := info_parts' info_row
  go_enter Try.func9, Try.ntmps9
  go_wp2
  go_loopw [3, 4] (fun s i wr => ∃ j : Nat, i = .int .i64 j ∧ j ≤ L.length ∧ wr.ownsRow w.heap.size 55 3 s j (RC (L.take j)) ∧ Kept No w wr) (fun _ i _ => L.length - (intOf i).toNat)
  case atStart => exact ⟨0, rfl, by omega, World.ownsRow_nil _ _ _ _, Kept.refl _ _⟩
  case round =>
    obtain ⟨j, rfl, hj, hown, hk⟩ := hrel
    have hsz := hk.size
    by_cases hlt : j < L.length
    · obtain ⟨b, off, rfl, hb, q0, q1, q2⟩ := hr.rw3 hlt
      have HT := Lib.hid (take_rw hlt)
      generalize L[j] = p at *
      obtain ⟨id, st, n⟩ := p
      dsimp only at q0 q1 q2
      have HQ := Lib.hid (And.intro q0 (And.intro q1 q2))
      clear q0 q1 q2
      go_wp2
      refine wp_region_held_drew (S := (fun wx => Kept No w wx)) (by kernel_rfl) ?_ (fun hHeld => ?_)
      · exact hk.drew
      refine wpAnyH_take (i := 0) (v := u3) rfl (by kernel_rfl) (by kernel_rfl) (by kernel_rfl) (fun _ _ _ h => h) (Or.inl ⟨by rfl, ?hhtf0⟩) (by assumption) ?rrtf0
      case hhtf0 => (intro wz9 hSw; (try dsimp only at hSw); go_simp; try with_reducible rfl)
      go_simp
      refine wpAnyH_take (i := 1) (v := (.slice (some ⟨b, off, none⟩) L.length c)) rfl (by kernel_rfl) (by kernel_rfl) (by kernel_rfl) (fun _ _ _ h => h) (Or.inl ⟨by rfl, ?hhtf1⟩) (by assumption) ?rrtf1
      case hhtf1 => (intro wz9 hSw; (try dsimp only at hSw); go_simp; try with_reducible rfl)
      go_simp
      refine wpAnyH_take (i := 2) (v := (.int .i64 (j : Int))) rfl (by kernel_rfl) (by kernel_rfl) (by kernel_rfl) (fun _ _ _ h => h) (Or.inl ⟨by rfl, ?hhtf2⟩) (by assumption) ?rrtf2
      case hhtf2 => (intro wz9 hSw; (try dsimp only at hSw); go_simp; try with_reducible rfl)
      go_simp
      refine wpAnyH_take (i := 3) (v := (.pointer (some ⟨b, off + j * 3, none⟩))) rfl (by kernel_rfl) (by kernel_rfl) (by kernel_rfl) (fun _ _ _ h => h) (Or.inl ⟨by rfl, ?hhtf3⟩) (by assumption) ?rrtf3
      case hhtf3 => (intro wz9 hSw; (try dsimp only at hSw); go_simp; try with_reducible rfl)
      go_simp
      refine wpAnyH_take (i := 4) (v := (.pointer (some ⟨b, off + j * 3, none⟩))) rfl (by kernel_rfl) (by kernel_rfl) (by kernel_rfl) (fun _ _ _ h => h) (Or.inl ⟨by rfl, ?hhtf4⟩) (by assumption) ?rrtf4
      case hhtf4 => (intro wz9 hSw; (try dsimp only at hSw); go_simp; try with_reducible rfl)
      go_simp
      refine wpAnyH_take (i := 5) (v := (.int .u16 (id : Int))) rfl (by kernel_rfl) (by kernel_rfl) (by kernel_rfl) (fun _ _ _ h => h) (Or.inl ⟨by rfl, ?hhtf5⟩) (by assumption) ?rrtf5
      case hhtf5 => (intro wz9 hSw; have z0 := (hSw.cell (p := ⟨b, off + j * 3, none⟩) hb (fun f => f)).trans HQ.out.1; clear hSw; go_simp; try with_reducible rfl)
      go_simp
      refine wpAnyH_take (i := 6) (v := (.slice (some ⟨b, off, none⟩) L.length c)) rfl (by kernel_rfl) (by kernel_rfl) (by kernel_rfl) (fun _ _ _ h => h) (Or.inl ⟨by rfl, ?hhtf6⟩) (by assumption) ?rrtf6
      case hhtf6 => (intro wz9 hSw; (try dsimp only at hSw); go_simp; try with_reducible rfl)
      go_simp
      refine wpAnyH_take (i := 7) (v := (.int .i64 (j : Int))) rfl (by kernel_rfl) (by kernel_rfl) (by kernel_rfl) (fun _ _ _ h => h) (Or.inl ⟨by rfl, ?hhtf7⟩) (by assumption) ?rrtf7
      case hhtf7 => (intro wz9 hSw; (try dsimp only at hSw); go_simp; try with_reducible rfl)
      go_simp
      refine wpAnyH_take (i := 8) (v := (.pointer (some ⟨b, off + j * 3, none⟩))) rfl (by kernel_rfl) (by kernel_rfl) (by kernel_rfl) (fun _ _ _ h => h) (Or.inl ⟨by rfl, ?hhtf8⟩) (by assumption) ?rrtf8
      case hhtf8 => (intro wz9 hSw; (try dsimp only at hSw); go_simp; try with_reducible rfl)
      go_simp
      refine wpAnyH_take (i := 9) (v := (.pointer (some ⟨b, off + j * 3 + 1, none⟩))) rfl (by kernel_rfl) (by kernel_rfl) (by kernel_rfl) (fun _ _ _ h => h) (Or.inl ⟨by rfl, ?hhtf9⟩) (by assumption) ?rrtf9
      case hhtf9 => (intro wz9 hSw; (try dsimp only at hSw); go_simp; try with_reducible rfl)
      go_simp
      refine wpAnyH_take (i := 10) (v := (.int .i64 st)) rfl (by kernel_rfl) (by kernel_rfl) (by kernel_rfl) (fun _ _ _ h => h) (Or.inl ⟨by rfl, ?hhtf10⟩) (by assumption) ?rrtf10
      case hhtf10 => (intro wz9 hSw; have z0 := (hSw.cell (p := ⟨b, off + j * 3 + 1, none⟩) hb (fun f => f)).trans HQ.out.2.1; clear hSw; go_simp; try with_reducible rfl)
      go_simp
      refine wpAnyH_take (i := 11) (v := (.slice (some ⟨b, off, none⟩) L.length c)) rfl (by kernel_rfl) (by kernel_rfl) (by kernel_rfl) (fun _ _ _ h => h) (Or.inl ⟨by rfl, ?hhtf11⟩) (by assumption) ?rrtf11
      case hhtf11 => (intro wz9 hSw; (try dsimp only at hSw); go_simp; try with_reducible rfl)
      go_simp
      refine wpAnyH_take (i := 12) (v := (.int .i64 (j : Int))) rfl (by kernel_rfl) (by kernel_rfl) (by kernel_rfl) (fun _ _ _ h => h) (Or.inl ⟨by rfl, ?hhtf12⟩) (by assumption) ?rrtf12
      case hhtf12 => (intro wz9 hSw; (try dsimp only at hSw); go_simp; try with_reducible rfl)
      go_simp
      refine wpAnyH_take (i := 13) (v := (.pointer (some ⟨b, off + j * 3, none⟩))) rfl (by kernel_rfl) (by kernel_rfl) (by kernel_rfl) (fun _ _ _ h => h) (Or.inl ⟨by rfl, ?hhtf13⟩) (by assumption) ?rrtf13
      case hhtf13 => (intro wz9 hSw; (try dsimp only at hSw); go_simp; try with_reducible rfl)
      go_simp
      refine wpAnyH_take (i := 14) (v := (.pointer (some ⟨b, off + j * 3 + 2, none⟩))) rfl (by kernel_rfl) (by kernel_rfl) (by kernel_rfl) (fun _ _ _ h => h) (Or.inl ⟨by rfl, ?hhtf14⟩) (by assumption) ?rrtf14
      case hhtf14 => (intro wz9 hSw; (try dsimp only at hSw); go_simp; try with_reducible rfl)
      go_simp
      refine wpAnyH_take (i := 15) (v := (.int .i64 n)) rfl (by kernel_rfl) (by kernel_rfl) (by kernel_rfl) (fun _ _ _ h => h) (Or.inl ⟨by rfl, ?hhtf15⟩) (by assumption) ?rrtf15
      case hhtf15 => (intro wz9 hSw; have z0 := (hSw.cell (p := ⟨b, off + j * 3 + 2, none⟩) hb (fun f => f)).trans HQ.out.2.2; clear hSw; go_simp; try with_reducible rfl)
      go_simp
      refine wpAnyH_take (i := 16) (v := (.agg #[.int .u16 (id : Int), .int .i64 st, .int .i64 n])) rfl (by kernel_rfl) (by kernel_rfl) (by kernel_rfl) (fun _ _ _ h => h) (Or.inl ⟨by rfl, ?hhtf16⟩) (by assumption) ?rrtf16
      case hhtf16 => (intro wz9 hSw; (try dsimp only at hSw); go_simp; try with_reducible rfl)
      go_simp
      refine wpAnyH_ready (rs := [17]) (by kernel_rfl) (by simp) ?_
      refine AllReadyH.cons rfl (fun K9 hK9 => ?_) AllReadyH.nil
      go_simp
      have hn1 := new_rw (w := wr) (t := 55) (p := ⟨id, st, n⟩)
      have hk1 := ((Kept.refl No wr).alloc (.cells #[.int .u16 (id : Int), .int .i64 st, .int .i64 n] 55)).drew
      have hown1 := own_keptNo hown hk1
      have hs1 := Nat.le_trans hsz hk1.size
      obtain ⟨g1, hg1⟩ : ∃ g, g = wr.heap.size := ⟨_, rfl⟩
      rw [← hg1] at hn1
      rw [← hg1]
      clear hg1
      have hn2 : ∀ j u, (RC [⟨id, st, n⟩])[j]? = some u → (wr.alloc (.cells #[.int .u16 (id : Int), .int .i64 st, .int .i64 n] 55)).drew.cell? ((⟨g1, 0, none⟩ : Addr).add j) = some u := hn1
      clear hn1
      generalize (wr.alloc (.cells #[.int .u16 (id : Int), .int .i64 st, .int .i64 n] 55)).drew = w1 at *
      refine hK9.out _ _ ?_ (fun hHeld2 => ?_)
      · exact hk.trans hk1
      clear hK9 K9 hHeld hHeld2
      refine wpAnyH_ready (rs := [18]) (by kernel_rfl) (by simp) ?_
      refine AllReadyH.cons rfl (fun K9 hK9 => ?_) AllReadyH.nil
      obtain ⟨v2, w2, hrun2, hown2, hg2, _⟩ := run_append_own (P := Try.prog) w1 w.heap.size 26 26 55 i0 _ 3 24 Try.underlying26 hi hz0 hz1 hz2 rfl (by decide) _ _ _ hown1 ⟨g1, 0, none⟩ 1 1 (RC [⟨id, st, n⟩]) rfl hn2 (RC_cell1 _) (by unfold maxLen; omega) (by omega) hs1
      refine op_appendN (.tmp 11) (.tmp 28) 26 rfl rfl rfl hrun2 ?_
      have hk2 := (hk.trans hk1).grown hg2 (own_no hown1)
      refine hK9.out _ _ ?_ (fun hHeld2 => ?_)
      · exact hk2
      clear hK9 K9 hHeld2
      go_simp
      refine wpAnyH_take (i := 19) (v := v2) rfl (by kernel_rfl) (by kernel_rfl) (by kernel_rfl) (fun _ _ _ h => h) (Or.inl ⟨by rfl, ?hh19⟩) (by assumption) ?rr19
      case hh19 => (intro wz9 hSw; (try dsimp only at hSw); go_simp; try with_reducible rfl)
      go_simp
      refine wpAnyH_done (by kernel_rfl) ?_ _
      go_wp2
      go_roundw
      case rel => exact ⟨j + 1, by go_num, by omega, by rw [HT.out, RC_append]; exact hown2, hk2⟩
      case measure => simp [intOf]; omega
    · have hje : j = L.length := by omega
      have HF := Lib.hid (List.take_of_length_le (l := L) (i := j) (by omega))
      go_wp2
      go_ret
      exact ownR_of hown hje (by rw [HF.out]) hk

set_option maxHeartbeats 4000000 in
theorem ifrom_any (a : Option Addr) (c : Nat) (L : List Rw) (w : World) (hr : Row w a (RC L)) (hl : L.length ≤ 100000) :
    Calls Try.prog 11 #[.slice a L.length c] w (OwnR 49 w L) := by
  obtain ⟨i0, hi, hz0, hz1, hz2⟩ := info_parts' info_rrow
  go_enter Try.func11, Try.ntmps11
  go_wp2
  go_loopw [3, 4] (fun s i wr => ∃ j : Nat, i = .int .i64 j ∧ j ≤ L.length ∧ wr.ownsRow w.heap.size 49 3 s j (RC (L.take j)) ∧ Kept No w wr) (fun _ i _ => L.length - (intOf i).toNat)
  case atStart => exact ⟨0, rfl, by omega, World.ownsRow_nil _ _ _ _, Kept.refl _ _⟩
  case round =>
    obtain ⟨j, rfl, hj, hown, hk⟩ := hrel
    have hsz := hk.size
    by_cases hlt : j < L.length
    · obtain ⟨b, off, rfl, hb, q0, q1, q2⟩ := hr.rw3 hlt
      have HT := Lib.hid (take_rw hlt)
      generalize L[j] = p at *
      obtain ⟨id, st, n⟩ := p
      dsimp only at q0 q1 q2
      have HQ := Lib.hid (And.intro q0 (And.intro q1 q2))
      clear q0 q1 q2
      go_wp2
      refine wp_region_held_drew (S := (fun wx => Kept No w wx)) (by kernel_rfl) ?_ (fun hHeld => ?_)
      · exact hk.drew
      refine wpAnyH_take (i := 0) (v := u3) rfl (by kernel_rfl) (by kernel_rfl) (by kernel_rfl) (fun _ _ _ h => h) (Or.inl ⟨by rfl, ?hhtf0⟩) (by assumption) ?rrtf0
      case hhtf0 => (intro wz9 hSw; (try dsimp only at hSw); go_simp; try with_reducible rfl)
      go_simp
      refine wpAnyH_take (i := 1) (v := (.slice (some ⟨b, off, none⟩) L.length c)) rfl (by kernel_rfl) (by kernel_rfl) (by kernel_rfl) (fun _ _ _ h => h) (Or.inl ⟨by rfl, ?hhtf1⟩) (by assumption) ?rrtf1
      case hhtf1 => (intro wz9 hSw; (try dsimp only at hSw); go_simp; try with_reducible rfl)
      go_simp
      refine wpAnyH_take (i := 2) (v := (.int .i64 (j : Int))) rfl (by kernel_rfl) (by kernel_rfl) (by kernel_rfl) (fun _ _ _ h => h) (Or.inl ⟨by rfl, ?hhtf2⟩) (by assumption) ?rrtf2
      case hhtf2 => (intro wz9 hSw; (try dsimp only at hSw); go_simp; try with_reducible rfl)
      go_simp
      refine wpAnyH_take (i := 3) (v := (.pointer (some ⟨b, off + j * 3, none⟩))) rfl (by kernel_rfl) (by kernel_rfl) (by kernel_rfl) (fun _ _ _ h => h) (Or.inl ⟨by rfl, ?hhtf3⟩) (by assumption) ?rrtf3
      case hhtf3 => (intro wz9 hSw; (try dsimp only at hSw); go_simp; try with_reducible rfl)
      go_simp
      refine wpAnyH_take (i := 4) (v := (.pointer (some ⟨b, off + j * 3, none⟩))) rfl (by kernel_rfl) (by kernel_rfl) (by kernel_rfl) (fun _ _ _ h => h) (Or.inl ⟨by rfl, ?hhtf4⟩) (by assumption) ?rrtf4
      case hhtf4 => (intro wz9 hSw; (try dsimp only at hSw); go_simp; try with_reducible rfl)
      go_simp
      refine wpAnyH_take (i := 5) (v := (.int .u16 (id : Int))) rfl (by kernel_rfl) (by kernel_rfl) (by kernel_rfl) (fun _ _ _ h => h) (Or.inl ⟨by rfl, ?hhtf5⟩) (by assumption) ?rrtf5
      case hhtf5 => (intro wz9 hSw; have z0 := (hSw.cell (p := ⟨b, off + j * 3, none⟩) hb (fun f => f)).trans HQ.out.1; clear hSw; go_simp; try with_reducible rfl)
      go_simp
      refine wpAnyH_take (i := 6) (v := (.slice (some ⟨b, off, none⟩) L.length c)) rfl (by kernel_rfl) (by kernel_rfl) (by kernel_rfl) (fun _ _ _ h => h) (Or.inl ⟨by rfl, ?hhtf6⟩) (by assumption) ?rrtf6
      case hhtf6 => (intro wz9 hSw; (try dsimp only at hSw); go_simp; try with_reducible rfl)
      go_simp
      refine wpAnyH_take (i := 7) (v := (.int .i64 (j : Int))) rfl (by kernel_rfl) (by kernel_rfl) (by kernel_rfl) (fun _ _ _ h => h) (Or.inl ⟨by rfl, ?hhtf7⟩) (by assumption) ?rrtf7
      case hhtf7 => (intro wz9 hSw; (try dsimp only at hSw); go_simp; try with_reducible rfl)
      go_simp
      refine wpAnyH_take (i := 8) (v := (.pointer (some ⟨b, off + j * 3, none⟩))) rfl (by kernel_rfl) (by kernel_rfl) (by kernel_rfl) (fun _ _ _ h => h) (Or.inl ⟨by rfl, ?hhtf8⟩) (by assumption) ?rrtf8
      case hhtf8 => (intro wz9 hSw; (try dsimp only at hSw); go_simp; try with_reducible rfl)
      go_simp
      refine wpAnyH_take (i := 9) (v := (.pointer (some ⟨b, off + j * 3 + 1, none⟩))) rfl (by kernel_rfl) (by kernel_rfl) (by kernel_rfl) (fun _ _ _ h => h) (Or.inl ⟨by rfl, ?hhtf9⟩) (by assumption) ?rrtf9
      case hhtf9 => (intro wz9 hSw; (try dsimp only at hSw); go_simp; try with_reducible rfl)
      go_simp
      refine wpAnyH_take (i := 10) (v := (.int .i64 st)) rfl (by kernel_rfl) (by kernel_rfl) (by kernel_rfl) (fun _ _ _ h => h) (Or.inl ⟨by rfl, ?hhtf10⟩) (by assumption) ?rrtf10
      case hhtf10 => (intro wz9 hSw; have z0 := (hSw.cell (p := ⟨b, off + j * 3 + 1, none⟩) hb (fun f => f)).trans HQ.out.2.1; clear hSw; go_simp; try with_reducible rfl)
      go_simp
      refine wpAnyH_take (i := 11) (v := (.slice (some ⟨b, off, none⟩) L.length c)) rfl (by kernel_rfl) (by kernel_rfl) (by kernel_rfl) (fun _ _ _ h => h) (Or.inl ⟨by rfl, ?hhtf11⟩) (by assumption) ?rrtf11
      case hhtf11 => (intro wz9 hSw; (try dsimp only at hSw); go_simp; try with_reducible rfl)
      go_simp
      refine wpAnyH_take (i := 12) (v := (.int .i64 (j : Int))) rfl (by kernel_rfl) (by kernel_rfl) (by kernel_rfl) (fun _ _ _ h => h) (Or.inl ⟨by rfl, ?hhtf12⟩) (by assumption) ?rrtf12
      case hhtf12 => (intro wz9 hSw; (try dsimp only at hSw); go_simp; try with_reducible rfl)
      go_simp
      refine wpAnyH_take (i := 13) (v := (.pointer (some ⟨b, off + j * 3, none⟩))) rfl (by kernel_rfl) (by kernel_rfl) (by kernel_rfl) (fun _ _ _ h => h) (Or.inl ⟨by rfl, ?hhtf13⟩) (by assumption) ?rrtf13
      case hhtf13 => (intro wz9 hSw; (try dsimp only at hSw); go_simp; try with_reducible rfl)
      go_simp
      refine wpAnyH_take (i := 14) (v := (.pointer (some ⟨b, off + j * 3 + 2, none⟩))) rfl (by kernel_rfl) (by kernel_rfl) (by kernel_rfl) (fun _ _ _ h => h) (Or.inl ⟨by rfl, ?hhtf14⟩) (by assumption) ?rrtf14
      case hhtf14 => (intro wz9 hSw; (try dsimp only at hSw); go_simp; try with_reducible rfl)
      go_simp
      refine wpAnyH_take (i := 15) (v := (.int .i64 n)) rfl (by kernel_rfl) (by kernel_rfl) (by kernel_rfl) (fun _ _ _ h => h) (Or.inl ⟨by rfl, ?hhtf15⟩) (by assumption) ?rrtf15
      case hhtf15 => (intro wz9 hSw; have z0 := (hSw.cell (p := ⟨b, off + j * 3 + 2, none⟩) hb (fun f => f)).trans HQ.out.2.2; clear hSw; go_simp; try with_reducible rfl)
      go_simp
      refine wpAnyH_take (i := 16) (v := (.agg #[.int .u16 (id : Int), .int .i64 st, .int .i64 n])) rfl (by kernel_rfl) (by kernel_rfl) (by kernel_rfl) (fun _ _ _ h => h) (Or.inl ⟨by rfl, ?hhtf16⟩) (by assumption) ?rrtf16
      case hhtf16 => (intro wz9 hSw; (try dsimp only at hSw); go_simp; try with_reducible rfl)
      go_simp
      refine wpAnyH_ready (rs := [17]) (by kernel_rfl) (by simp) ?_
      refine AllReadyH.cons rfl (fun K9 hK9 => ?_) AllReadyH.nil
      go_simp
      have hn1 := new_rw (w := wr) (t := 49) (p := ⟨id, st, n⟩)
      have hk1 := ((Kept.refl No wr).alloc (.cells #[.int .u16 (id : Int), .int .i64 st, .int .i64 n] 49)).drew
      have hown1 := own_keptNo hown hk1
      have hs1 := Nat.le_trans hsz hk1.size
      obtain ⟨g1, hg1⟩ : ∃ g, g = wr.heap.size := ⟨_, rfl⟩
      rw [← hg1] at hn1
      rw [← hg1]
      clear hg1
      have hn2 : ∀ j u, (RC [⟨id, st, n⟩])[j]? = some u → (wr.alloc (.cells #[.int .u16 (id : Int), .int .i64 st, .int .i64 n] 49)).drew.cell? ((⟨g1, 0, none⟩ : Addr).add j) = some u := hn1
      clear hn1
      generalize (wr.alloc (.cells #[.int .u16 (id : Int), .int .i64 st, .int .i64 n] 49)).drew = w1 at *
      refine hK9.out _ _ ?_ (fun hHeld2 => ?_)
      · exact hk.trans hk1
      clear hK9 K9 hHeld hHeld2
      refine wpAnyH_ready (rs := [18]) (by kernel_rfl) (by simp) ?_
      refine AllReadyH.cons rfl (fun K9 hK9 => ?_) AllReadyH.nil
      obtain ⟨v2, w2, hrun2, hown2, hg2, _⟩ := run_append_own (P := Try.prog) w1 w.heap.size 22 22 49 i0 _ 3 24 Try.underlying22 hi hz0 hz1 hz2 rfl (by decide) _ _ _ hown1 ⟨g1, 0, none⟩ 1 1 (RC [⟨id, st, n⟩]) rfl hn2 (RC_cell1 _) (by unfold maxLen; omega) (by omega) hs1
      refine op_appendN (.tmp 11) (.tmp 28) 22 rfl rfl rfl hrun2 ?_
      have hk2 := (hk.trans hk1).grown hg2 (own_no hown1)
      refine hK9.out _ _ ?_ (fun hHeld2 => ?_)
      · exact hk2
      clear hK9 K9 hHeld2
      go_simp
      refine wpAnyH_take (i := 19) (v := v2) rfl (by kernel_rfl) (by kernel_rfl) (by kernel_rfl) (fun _ _ _ h => h) (Or.inl ⟨by rfl, ?hh19⟩) (by assumption) ?rr19
      case hh19 => (intro wz9 hSw; (try dsimp only at hSw); go_simp; try with_reducible rfl)
      go_simp
      refine wpAnyH_done (by kernel_rfl) ?_ _
      go_wp2
      go_roundw
      case rel => exact ⟨j + 1, by go_num, by omega, by rw [HT.out, RC_append]; exact hown2, hk2⟩
      case measure => simp [intOf]; omega
    · have hje : j = L.length := by omega
      have HF := Lib.hid (List.take_of_length_le (l := L) (i := j) (by omega))
      go_wp2
      go_ret
      exact ownR_of hown hje (by rw [HF.out]) hk

end Go.Proofs.Ytlgbljohhnhhkaa
