/-
  Where a number stands: the search, and find.
-/
import Derived.Test.YtlgbljohhnhhkaaIdC
namespace Go.Proofs.Ytlgbljohhnhhkaa
open Go.RowKit
set_option linter.unusedVariables false
set_option linter.unusedSimpArgs false
set_option maxRecDepth 100000

theorem op_shr {P : Program} {o : Oper} {a : Act} {w : World} {K : Act → World → Prop} {Q : Exit → Act → World → Prop} (t1 t2 : TypeId) (x y : Operand) {X Y : Int} (hop : o.op = Op.binOp .shr t1 x y t2) (hx : a.eval x = .int .u64 X) (hy : a.eval y = .int .u64 1) (hY : X / 2 = Y)
    (hK : K (a.put o.dst (.int .u64 Y)) w) : o.wp P a w K Q := by
  subst hY
  unfold Oper.wp
  simp only [execOp, hop, hx, hy]
  go_simp
  exact hK
theorem isnan_any (x : Nat) (w : World) : Calls Try.prog 35 #[.int .u16 x] w fun e w' => e = .returned (.bool false) ∧ w = w' := by
  go_enter Try.func35, Try.ntmps35
  go_wp2
  go_ret
  exact ⟨rfl, rfl⟩
def cfN (x y : Nat) : Int := if x < y then -1 else if y < x then 1 else 0
theorem compare_any (x y : Nat) (w : World) : Calls Try.prog 33 #[.int .u16 x, .int .u16 y] w fun e w' => e = .returned (.int .i64 (cfN x y)) ∧ w = w' := by
  rcases Nat.lt_trichotomy x y with h | h | h
  · have hc : cfN x y = -1 := by simp [cfN, h]
    have hI : (x : Int) < (y : Int) := by omega
    rw [hc]
    clear hc
    go_enter Try.func33, Try.ntmps33
    go_wp2_with (go_at_call 35; refine (isnan_any _ _).mono ?_; rintro e w' ⟨rfl, rfl⟩)
    go_ret
    exact ⟨rfl, rfl⟩
  · subst h
    have hc : cfN x x = 0 := by simp [cfN]
    rw [hc]
    clear hc
    go_enter Try.func33, Try.ntmps33
    go_wp2_with (go_at_call 35; refine (isnan_any _ _).mono ?_; rintro e w' ⟨rfl, rfl⟩)
    go_ret
    exact ⟨rfl, rfl⟩
  · have hc : cfN x y = 1 := by simp [cfN]; omega
    have hI : ¬ (x : Int) < (y : Int) := by omega
    have hI2 : (y : Int) < (x : Int) := by omega
    rw [hc]
    clear hc
    go_enter Try.func33, Try.ntmps33
    go_wp2_with (go_at_call 35; refine (isnan_any _ _).mono ?_; rintro e w' ⟨rfl, rfl⟩)
    go_ret
    exact ⟨rfl, rfl⟩
def CmpIs (z : Int) (w : World) (e : Ending) (w' : World) : Prop := e = .returned (.int .i64 z) ∧ Kept No w w'
theorem cmpc_any (id : Nat) (st n : Int) (i : Nat) (w : World) : Calls Try.prog 32 #[.agg #[.int .u16 id, .int .i64 st, .int .i64 n], .int .u16 i] w (CmpIs (cfN id i) w) := by
  generalize hc : cfN id i = c
  have cC : ∀ wx, Calls Try.prog 33 #[.int .u16 id, .int .u16 i] wx fun e w' => e = .returned (.int .i64 c) ∧ wx = w' := fun wx => by rw [← hc]; exact compare_any id i wx
  have HC := Lib.hid cC
  clear cC hc
  go_enter Try.func32, Try.ntmps32
  go_wp2_with (go_at_call 33; refine (HC.out _).mono ?_; rintro e w' ⟨rfl, rfl⟩)
  go_ret
  exact ⟨rfl, (Kept.refl No w).alloc _⟩

def FindIs (p : Nat) (b : Bool) (w : World) (e : Ending) (w' : World) : Prop := e = .returned (.tuple #[.int .i64 p, .bool b]) ∧ Kept No w w'
set_option maxHeartbeats 4000000 in
theorem search_any (a : Option Addr) (c : Nat) (L A : List Rw) (o : Option Rw) (C : List Rw) (i : Nat) (hc : Cut L i A o C) (w : World) (hr : Row w a (RC L)) (hl : L.length ≤ 100000) :
    Calls Try.prog 31 #[.slice a L.length c, .int .u16 i, .func (.func 32) #[] #[]] w (FindIs A.length o.isSome w) := by
  have hlen := congrArg List.length hc.all
  simp only [List.length_append] at hlen
  have hlo : ∀ k (h : k < L.length), k < A.length → L[k].id < i := by
    intro k h h2
    have : L[k] = A[k] := by
      have e := hc.all
      subst e
      rw [List.getElem_append_left h2]
    rw [this]
    exact hc.lo _ (List.getElem_mem h2)
  have hge : ∀ k (h : k < L.length), A.length ≤ k → i ≤ L[k].id := by
    intro k h h2
    have : L[k] ∈ o.toList ++ C := by
      have e := hc.all
      subst e
      rw [List.getElem_append_right h2]
      exact List.getElem_mem _
    rcases List.mem_append.1 this with h3 | h3
    · cases o with
      | none => cases h3
      | some r =>
        have e := hc.at_ r rfl
        simp at h3
        rw [h3]; omega
    · exact Nat.le_of_lt (hc.hi _ h3)
  have hat : ∀ (h : A.length < L.length), o.isSome = decide (L[A.length].id = i) := by
    intro h
    have e := hc.all
    cases o with
    | none =>
      have : L[A.length] ∈ C := by
        subst e
        rw [List.getElem_append_right (Nat.le_refl _)]
        exact List.getElem_mem _
      have := hc.hi _ this
      symm
      exact decide_eq_false (by omega)
    | some r =>
      have : L[A.length] = r := by
        subst e
        rw [List.getElem_append_right (Nat.le_refl _)]
        simp
      rw [this]
      symm
      exact decide_eq_true (hc.at_ r rfl)
  have hno : ¬ A.length < L.length → o.isSome = false := by
    intro h
    cases o with
    | none => rfl
    | some r => simp at hlen; omega
  have hAl : A.length ≤ L.length := by omega
  generalize hAN : A.length = N at *
  generalize o.isSome = B at *
  have HLO := Lib.hid hlo
  have HGE := Lib.hid hge
  have HAT := Lib.hid hat
  have HNO := Lib.hid hno
  clear hlo hge hat hno hc hlen hAN
  go_enter Try.func31, Try.ntmps31
  go_wp2
  go_loopw [9, 10] (fun x y wr => ∃ p q : Nat, x = .int .i64 p ∧ y = .int .i64 q ∧ p ≤ N ∧ N ≤ q ∧ q ≤ L.length ∧ Kept No w wr) (fun x y _ => (intOf y).toNat - (intOf x).toNat)
  case atStart => exact ⟨0, L.length, rfl, rfl, by omega, hAl, by omega, Kept.refl _ _⟩
  case round =>
    obtain ⟨p, q, rfl, rfl, hp, hq, hql, hk⟩ := hrel
    by_cases hpq : p < q
    · have hhL : (p + q) / 2 < L.length := by omega
      have hsum : (p : Int) + (q : Int) ≤ 200000 := by omega
      obtain ⟨b, off, rfl, hb, q0, q1, q2⟩ := (hr.keptNo hk).rw3 hhL
      have HL := Lib.hid (fun h2 => HLO.out _ hhL h2)
      have HG := Lib.hid (fun h2 => HGE.out _ hhL h2)
      generalize L[(p + q) / 2] = r at *
      obtain ⟨id, st, n⟩ := r
      dsimp only at q0 q1 q2 HL HG
      have cC := fun wx => cmpc_any id st n i wx
      by_cases hlt : id < i
      · have hhN : (p + q) / 2 < N := by
          rcases Nat.lt_or_ge ((p + q) / 2) N with h3 | h3
          · exact h3
          · have := HG.out h3; omega
        have e : cfN id i = -1 := by simp [cfN, hlt]
        rw [e] at cC
        have HC := Lib.hid cC
        clear cC e HL HG
        go_wp2_with (first
          | fail
          | (go_at_call 32; refine (HC.out _).mono ?_; rintro e w2 ⟨rfl, hk2⟩))
        go_roundw
        case rel => exact ⟨(p + q) / 2 + 1, q, by go_num, rfl, by omega, hq, hql, hk.trans hk2⟩
        case measure => simp [intOf]; omega
      · have hhN : N ≤ (p + q) / 2 := by
          rcases Nat.lt_or_ge ((p + q) / 2) N with h3 | h3
          · have := HL.out h3; omega
          · exact h3
        have hc0 : 0 ≤ cfN id i := by unfold cfN; rw [if_neg hlt]; split <;> decide
        generalize cfN id i = cv at *
        have hcI : ¬ cv < 0 := by omega
        have HC := Lib.hid cC
        clear cC HL HG
        go_wp2_with (first
          | fail
          | (go_at_call 32; refine (HC.out _).mono ?_; rintro e w2 ⟨rfl, hk2⟩))
        go_roundw
        case rel => exact ⟨p, (p + q) / 2, rfl, by go_num, hp, hhN, by omega, hk.trans hk2⟩
        case measure => simp [intOf]; omega
    · obtain rfl : p = N := by omega
      obtain rfl : q = p := by omega
      by_cases hlt : q < L.length
      · obtain ⟨b, off, rfl, hb, q0, q1, q2⟩ := (hr.keptNo hk).rw3 hlt
        have HA := Lib.hid (HAT.out hlt)
        generalize L[q] = r at *
        obtain ⟨id, st, n⟩ := r
        dsimp only at q0 q1 q2 HA
        have cC := fun wx => cmpc_any id st n i wx
        by_cases he : id = i
        · have e : cfN id i = 0 := by simp [cfN, he]
          have HB : Hid (B = true) := Lib.hid (by rw [HA.out]; exact decide_eq_true he)
          rw [e] at cC
          have HC := Lib.hid cC
          clear cC e HA
          subst he
          go_wp2_with (go_at_call 32; refine (HC.out _).mono ?_; rintro e w2 ⟨rfl, hk2⟩)
          go_ret2
          exact ⟨by rw [HB.out]; rfl, hk.trans hk2⟩
        · have e : (cfN id i == 0) = false := by
            have : cfN id i ≠ 0 := by
              unfold cfN
              split
              · decide
              · rw [if_pos (by omega)]; decide
            simpa using this
          have HB : Hid (B = false) := Lib.hid (by rw [HA.out]; exact decide_eq_false he)
          generalize cfN id i = cv at *
          have HC := Lib.hid cC
          clear cC HA
          go_wp2_with (go_at_call 32; refine (HC.out _).mono ?_; rintro e w2 ⟨rfl, hk2⟩)
          go_ret2
          exact ⟨by rw [HB.out]; rfl, hk.trans hk2⟩
      · have HB := Lib.hid (HNO.out hlt)
        go_wp2
        go_ret2
        exact ⟨by rw [HB.out]; rfl, hk⟩

theorem find_any (a : Option Addr) (c : Nat) (L A : List Rw) (o : Option Rw) (C : List Rw) (i : Nat) (hc : Cut L i A o C) (w : World) (hr : Row w a (RC L)) (hl : L.length ≤ 100000) :
    Calls Try.prog 22 #[.slice a L.length c, .int .u16 i] w (FindIs A.length o.isSome w) := by
  have HS := Lib.hid (fun wx h => search_any a c L A o C i hc wx h hl)
  have hAl : A.length ≤ 100000 := by have := congrArg List.length hc.all; simp only [List.length_append] at this; omega
  generalize A.length = N at *
  generalize o.isSome = B at *
  clear hc
  go_enter Try.func22, Try.ntmps22
  go_wp2_with (go_at_call 31; refine (HS.out _ hr).mono ?_; rintro e w2 ⟨rfl, hk2⟩)
  go_ret2
  exact ⟨rfl, hk2⟩

end Go.Proofs.Ytlgbljohhnhhkaa
