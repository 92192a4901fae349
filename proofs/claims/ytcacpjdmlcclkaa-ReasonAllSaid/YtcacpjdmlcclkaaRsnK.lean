/-
  Contracts of package reason: Known, Failed.
-/
import Derived.Test.YtcacpjdmlcclkaaRsn
import Derived.Deep.DeepCutAuto
import Derived.Deep.CutBlock
namespace Go.Proofs.Ytcacpjdmlcclkaa
open Go.RowKit
set_option linter.unusedVariables false
set_option linter.unusedSimpArgs false

theorem spCells_get (l : List (Nat × Nat)) (i : Nat) (h : i < l.length) : (spCells l)[i * 2]? = some (.int .u8 l[i].1) ∧ (spCells l)[i * 2 + 1]? = some (.int .u8 l[i].2) := by
  induction l generalizing i with
  | nil => simp at h
  | cons p t ih =>
    cases i with
    | zero => simp [spCells]
    | succ i =>
      have := ih i (by simpa using h)
      simpa [spCells, Nat.add_mul] using this
theorem spans_at {w : World} {a : Option Addr} {l : List (Nat × Nat)} (h : Row w a (spCells l)) (i : Nat) (hi : i < l.length) :
    ∃ b off, a = some ⟨b, off, none⟩ ∧ b < w.heap.size ∧ w.cell? ⟨b, off + i * 2, none⟩ = some (.int .u8 l[i].1) ∧ w.cell? ⟨b, off + i * 2 + 1, none⟩ = some (.int .u8 l[i].2) := by
  obtain ⟨e1, e2⟩ := spCells_get l i hi
  rcases h with h | ⟨b, off, ha, hb, hc⟩
  · rw [h] at e1; simp at e1
  · exact ⟨b, off, ha, hb, hc _ _ e1, by rw [Nat.add_assoc]; exact hc _ _ e2⟩

set_option maxRecDepth 100000 in
set_option maxHeartbeats 1000000 in
theorem known_any (v k : Int) (c : Nat) (w : World) (hc : c < 256) :
    Calls Try.prog 6 #[.int .i64 v, .int .i64 k, .int .u8 c] w fun e w' => e = .returned (.bool (knownB (sp v k) c)) ∧ Kept No w w' := by
  have cs := spans_any v k
  have hl := sp_len v k
  have hg := sp_get v k
  generalize sp v k = l at *
  have HS := Lib.hid cs
  have HG := Lib.hid hg
  clear cs hg
  go_enter Try.func6, Try.ntmps6
  go_wp2_with (go_at_call 12; refine (HS.out _).mono ?_; rintro e w1 ⟨a, rfl, hr, hk⟩)
  go_loopw [13] (fun i wr => ∃ j : Nat, i = .int .i64 j ∧ j ≤ l.length ∧ Hid (knownB (l.take j) c = false) ∧ Kept No w1 wr) (fun i _ => l.length - (intOf i).toNat)
  case atStart => exact ⟨0, rfl, by omega, Lib.hid (by simp [knownB]), Kept.refl _ _⟩
  case round =>
    obtain ⟨j, rfl, hj, HN, hk1⟩ := hrel
    by_cases hlt : j < l.length
    · obtain ⟨b, off, rfl, hb, c1, c2⟩ := spans_at (hr.keptNo hk1) j hlt
      have hgj := HG.out j hlt
      have HT := Lib.hid (known_take l c j hlt)
      have HO := Lib.hid (known_of l c j hlt)
      generalize l[j].1 = lo at *
      generalize l[j].2 = hi at *
      have hne : b ≠ wr.heap.size := by omega
      by_cases h1 : lo ≤ c
      · by_cases h2 : hi < c
        · have h1z : (lo : Int) ≤ c := by omega
          have h2z : (c : Int) < hi → False := by omega
          have hd : decide ((c : Int) ≤ (hi : Int)) = false := by simp; omega
          have hN2 : knownB (l.take (j + 1)) c = false := by rw [HT.out, HN.out]; simp; omega
          have HN2 := Lib.hid hN2
          clear hN2 h2z
          go_wp2
          go_roundw
          case rel => exact ⟨j + 1, by go_num, by omega, HN2, hk1.alloc _⟩
          case measure => simp [intOf]; omega
        · have h1z : (lo : Int) ≤ c := by omega
          have h2z : (c : Int) ≤ hi := by omega
          have hY := Lib.hid (HO.out h1 (by omega))
          go_wp2
          go_ret
          exact ⟨by rw [hY.out]; rfl, hk.trans (hk1.alloc _)⟩
      · have hd : decide ((lo : Int) ≤ (c : Int)) = false := by simp; omega
        have hN2 : knownB (l.take (j + 1)) c = false := by rw [HT.out, HN.out]; simp; omega
        have HN2 := Lib.hid hN2
        clear hN2
        go_wp2
        go_roundw
        case rel => exact ⟨j + 1, by go_num, by omega, HN2, hk1.alloc _⟩
        case measure => simp [intOf]; omega
    · have hF := Lib.hid (known_full l c j (by omega))
      go_wp2
      go_ret
      exact ⟨by rw [← hF.out, HN.out]; rfl, hk.trans hk1⟩

def ke (v k : Int) (c : Nat) : Bool := knownB (sp v k) c
theorem failed_any (v k : Int) (c : Nat) (w : World) (hc : c < 256) :
    Calls Try.prog 8 #[.int .i64 v, .int .i64 k, .int .u8 c] w fun e w' => e = .returned (.bool (failedB v k c)) ∧ Kept No w w' := by
  have cK := known_any v k c w hc
  by_cases hK : knownB (sp v k) c = true
  · rw [hK] at cK
    have HK := Lib.hid cK
    clear cK
    by_cases h4 : v = 4
    · by_cases h2 : k = 2
      · subst h4 h2
        have hF := Lib.hid (failed_4 2 c rfl hK)
        clear hK
        have hb : ((c : Int) != 0) = !decide (c = 0) := by
          by_cases h0 : c = 0 <;> simp [h0]
        have HB := Lib.hid hb
        clear hb
        go_enter Try.func8, Try.ntmps8
        go_wp2_with (go_at_call 6; refine HK.out.mono ?_; rintro e w1 ⟨rfl, hk⟩)
        go_ret
        exact ⟨by rw [hF.out, ← HB.out]; rfl, hk⟩
      · have hF := Lib.hid (failed_else v k c (by omega) hK)
        have hb2 : (k == 2) = false := by simpa using h2
        subst h4
        clear hK h2
        have hb : decide (128 ≤ (c : Int)) = decide (128 ≤ c) := by
          by_cases h0 : 128 ≤ c
          · rw [decide_eq_true h0, decide_eq_true (by omega)]
          · rw [decide_eq_false h0, decide_eq_false (by omega)]
        have HB := Lib.hid hb
        clear hb
        go_enter Try.func8, Try.ntmps8
        go_wp2_with (go_at_call 6; refine HK.out.mono ?_; rintro e w1 ⟨rfl, hk⟩)
        go_ret
        exact ⟨by rw [hF.out, ← HB.out]; rfl, hk⟩
    · have hF := Lib.hid (failed_else v k c (by omega) hK)
      have hb4 : (v == 4) = false := by simpa using h4
      clear hK h4
      have hb : decide (128 ≤ (c : Int)) = decide (128 ≤ c) := by
        by_cases h0 : 128 ≤ c
        · rw [decide_eq_true h0, decide_eq_true (by omega)]
        · rw [decide_eq_false h0, decide_eq_false (by omega)]
      have HB := Lib.hid hb
      clear hb
      go_enter Try.func8, Try.ntmps8
      go_wp2_with (go_at_call 6; refine HK.out.mono ?_; rintro e w1 ⟨rfl, hk⟩)
      go_ret
      exact ⟨by rw [hF.out, ← HB.out]; rfl, hk⟩
  · have hK' : knownB (sp v k) c = false := by simpa using hK
    rw [hK'] at cK
    have hF := Lib.hid (failed_no v k c hK')
    have HK := Lib.hid cK
    clear cK hK hK'
    go_enter Try.func8, Try.ntmps8
    go_wp2_with (go_at_call 6; refine HK.out.mono ?_; rintro e w1 ⟨rfl, hk⟩)
    go_ret
    exact ⟨by rw [hF.out]; rfl, hk⟩

end Go.Proofs.Ytcacpjdmlcclkaa
