/-
  Lists of numbers in use: Right, Flying, To, From, Same, Of.
-/
import Derived.Test.YtlgbljohhnhhkaaIdB
import Derived.BigQuiet
import Derived.Deep.QuietTactic
import Derived.StillTailTactics
namespace Go.Proofs.Ytlgbljohhnhhkaa
open Go.RowKit
set_option linter.unusedVariables false
set_option linter.unusedSimpArgs false
set_option maxRecDepth 100000

theorem drop_rw {L : List Rw} {j : Nat} (h : j < L.length) : L.drop j = L[j] :: L.drop (j + 1) := List.drop_eq_getElem_cons h
def RightIs (b : Bool) (w : World) (e : Ending) (w' : World) : Prop := e = .returned (.bool b) ∧ Kept No w w'
def FlyIs (n : Nat) (w : World) (e : Ending) (w' : World) : Prop := e = .returned (.int .i64 n) ∧ Kept No w w'

set_option maxHeartbeats 4000000 in
theorem iright_any (a : Option Addr) (c : Nat) (L : List Rw) (w : World) (hr : Row w a (RC L)) (hl : L.length ≤ 100000) :
    Calls Try.prog 8 #[.slice a L.length c] w (RightIs (rightGo 0 L) w) := by
  generalize hR : rightGo 0 L = R
  have HR := Lib.hid hR
  clear hR
  go_enter Try.func8, Try.ntmps8
  go_wp2
  go_loopw [3, 8] (fun b i wr => ∃ j m : Nat, i = .int .i64 j ∧ b = .int .u16 m ∧ j ≤ L.length ∧ Hid (rightGo m (L.drop j) = R) ∧ Kept No w wr) (fun _ i _ => L.length - (intOf i).toNat)
  case atStart => exact ⟨0, 0, rfl, rfl, by omega, Lib.hid (by rw [List.drop_zero]; exact HR.out), Kept.refl _ _⟩
  case round =>
    obtain ⟨j, m, rfl, rfl, hj, HG, hk⟩ := hrel
    by_cases hlt : j < L.length
    · obtain ⟨b, off, rfl, hb, q0, q1, q2⟩ := (hr.keptNo hk).rw3 hlt
      have HD := Lib.hid (drop_rw hlt)
      generalize L[j] = p at *
      obtain ⟨id, st, n⟩ := p
      dsimp only at q0 q1 q2
      have HE : Hid ((decide (m < id) && (fitB st n && rightGo id (L.drop (j + 1)))) = R) := Lib.hid (by rw [← HG.out, HD.out]; rfl)
      have cF := fun wx => fits_any st n wx
      by_cases hlo : m < id
      · have hloI : ¬ (id : Int) ≤ (m : Int) := by omega
        cases hf : fitB st n with
        | true =>
          have HN : Hid (rightGo id (L.drop (j + 1)) = R) := Lib.hid (by have := HE.out; rwa [hf, decide_eq_true hlo] at this)
          rw [hf] at cF
          have HF := Lib.hid cF
          clear cF hf HE HG HD
          go_wp2_with (go_at_call 20; refine (HF.out _).mono ?_; rintro e w' ⟨rfl, rfl⟩)
          go_roundw
          case rel => exact ⟨j + 1, id, by go_num, rfl, by omega, HN, hk.alloc _⟩
          case measure => simp [intOf]; omega
        | false =>
          have HN : Hid (R = false) := Lib.hid (by have := HE.out; rw [hf] at this; simpa using this.symm)
          rw [hf] at cF
          have HF := Lib.hid cF
          clear cF hf HE HG HD
          go_wp2_with (go_at_call 20; refine (HF.out _).mono ?_; rintro e w' ⟨rfl, rfl⟩)
          go_ret
          exact ⟨by rw [HN.out]; rfl, hk.alloc _⟩
      · have hloI : (id : Int) ≤ (m : Int) := by omega
        have HN : Hid (R = false) := Lib.hid (by have := HE.out; rw [decide_eq_false hlo] at this; simpa using this.symm)
        clear cF HE HG HD
        go_wp2
        go_ret
        exact ⟨by rw [HN.out]; rfl, hk.alloc _⟩
    · have HN : Hid (R = true) := Lib.hid (by rw [← HG.out, List.drop_of_length_le (by omega)]; rfl)
      go_wp2
      go_ret
      exact ⟨by rw [HN.out]; rfl, hk⟩

set_option maxHeartbeats 4000000 in
theorem iflying_any (a : Option Addr) (c : Nat) (L : List Rw) (w : World) (hr : Row w a (RC L)) (hl : L.length ≤ 100000) (hf : ∀ r ∈ L, fitB r.st r.n = true) :
    Calls Try.prog 17 #[.slice a L.length c] w (FlyIs (flyN L) w) := by
  generalize hR : flyN L = R
  have HR := Lib.hid hR
  have HF0 := Lib.hid hf
  have hRl : R ≤ 100000 := by have := flyN_le L; omega
  clear hR hf
  go_enter Try.func17, Try.ntmps17
  go_wp2
  go_loopw [3, 8] (fun b i wr => ∃ j m : Nat, i = .int .i64 j ∧ b = .int .i64 m ∧ j ≤ L.length ∧ m + flyN (L.drop j) ≤ 100000 ∧ Hid (m + flyN (L.drop j) = R) ∧ Kept No w wr) (fun _ i _ => L.length - (intOf i).toNat)
  case atStart => exact ⟨0, 0, rfl, rfl, by omega, by rw [List.drop_zero]; have := HR.out; omega, Lib.hid (by rw [List.drop_zero, Nat.zero_add]; exact HR.out), Kept.refl _ _⟩
  case round =>
    obtain ⟨j, m, rfl, rfl, hj, hm, HG, hk⟩ := hrel
    by_cases hlt : j < L.length
    · obtain ⟨b, off, rfl, hb, q0, q1, q2⟩ := (hr.keptNo hk).rw3 hlt
      have HD := Lib.hid (drop_rw hlt)
      have hfit := HF0.out _ (List.getElem_mem hlt)
      generalize L[j] = p at *
      obtain ⟨id, st, n⟩ := p
      dsimp only at q0 q1 q2 hfit
      have hfl := fli_of hfit
      have cF := fun wx => flies_any st wx
      have e : flyN (L.drop j) = (if st ≤ 4 then 1 else 0) + flyN (L.drop (j + 1)) := by rw [HD.out]; rfl
      by_cases h4 : st ≤ 4
      · rw [hfl, decide_eq_true h4] at cF
        have HF := Lib.hid cF
        have hm2 : (m + 1) + flyN (L.drop (j + 1)) ≤ 100000 := by rw [e, if_pos h4] at hm; omega
        have HN : Hid ((m + 1) + flyN (L.drop (j + 1)) = R) := Lib.hid (by have := HG.out; rw [e, if_pos h4] at this; omega)
        clear cF hfl hfit e HG HD hm
        go_wp2_with (go_at_call 30; refine (HF.out _).mono ?_; rintro e w' ⟨rfl, rfl⟩)
        go_roundw
        case rel => exact ⟨j + 1, m + 1, by go_num, by go_num, by omega, hm2, HN, hk.alloc _⟩
        case measure => simp [intOf]; omega
      · rw [hfl, decide_eq_false h4] at cF
        have HF := Lib.hid cF
        have hm2 : m + flyN (L.drop (j + 1)) ≤ 100000 := by rw [e, if_neg h4] at hm; omega
        have HN : Hid (m + flyN (L.drop (j + 1)) = R) := Lib.hid (by have := HG.out; rw [e, if_neg h4] at this; omega)
        clear cF hfl hfit e HG HD hm
        go_wp2_with (go_at_call 30; refine (HF.out _).mono ?_; rintro e w' ⟨rfl, rfl⟩)
        go_roundw
        case rel => exact ⟨j + 1, m, by go_num, rfl, by omega, hm2, HN, hk.alloc _⟩
        case measure => simp [intOf]; omega
    · have HN : Hid (m = R) := Lib.hid (by have := HG.out; rwa [List.drop_of_length_le (by omega)] at this)
      clear hm
      go_wp2
      go_ret
      exact ⟨by rw [HN.out]; rfl, hk⟩

set_option maxHeartbeats 4000000 in
theorem rflying_any (a : Option Addr) (c : Nat) (L : List Rw) (w : World) (hr : Row w a (RC L)) (hl : L.length ≤ 100000) :
    Calls Try.prog 18 #[.slice a L.length c] w (FlyIs (flyN L) w) := by
  generalize hR : flyN L = R
  have HR := Lib.hid hR
  have hRl : R ≤ 100000 := by have := flyN_le L; omega
  clear hR
  go_enter Try.func18, Try.ntmps18
  go_wp2
  go_loopw [3, 4] (fun b i wr => ∃ j m : Nat, i = .int .i64 j ∧ b = .int .i64 m ∧ j ≤ L.length ∧ m + flyN (L.drop j) ≤ 100000 ∧ Hid (m + flyN (L.drop j) = R) ∧ Kept No w wr) (fun _ i _ => L.length - (intOf i).toNat)
  case atStart => exact ⟨0, 0, rfl, rfl, by omega, by rw [List.drop_zero]; have := HR.out; omega, Lib.hid (by rw [List.drop_zero, Nat.zero_add]; exact HR.out), Kept.refl _ _⟩
  case round =>
    obtain ⟨j, m, rfl, rfl, hj, hm, HG, hk⟩ := hrel
    by_cases hlt : j < L.length
    · obtain ⟨b, off, rfl, hb, q0, q1, q2⟩ := (hr.keptNo hk).rw3 hlt
      have HD := Lib.hid (drop_rw hlt)
      generalize L[j] = p at *
      obtain ⟨id, st, n⟩ := p
      dsimp only at q0 q1 q2
      have e : flyN (L.drop j) = (if st ≤ 4 then 1 else 0) + flyN (L.drop (j + 1)) := by rw [HD.out]; rfl
      by_cases h4 : st ≤ 4
      · have hm2 : (m + 1) + flyN (L.drop (j + 1)) ≤ 100000 := by rw [e, if_pos h4] at hm; omega
        have HN : Hid ((m + 1) + flyN (L.drop (j + 1)) = R) := Lib.hid (by have := HG.out; rw [e, if_pos h4] at this; omega)
        clear e HG HD hm
        go_wp2
        go_roundw
        case rel => exact ⟨j + 1, m + 1, by go_num, by go_num, by omega, hm2, HN, hk⟩
        case measure => simp [intOf]; omega
      · have hm2 : m + flyN (L.drop (j + 1)) ≤ 100000 := by rw [e, if_neg h4] at hm; omega
        have HN : Hid (m + flyN (L.drop (j + 1)) = R) := Lib.hid (by have := HG.out; rw [e, if_neg h4] at this; omega)
        clear e HG HD hm
        go_wp2
        go_roundw
        case rel => exact ⟨j + 1, m, by go_num, rfl, by omega, hm2, HN, hk⟩
        case measure => simp [intOf]; omega
    · have HN : Hid (m = R) := Lib.hid (by have := HG.out; rwa [List.drop_of_length_le (by omega)] at this)
      clear hm
      go_wp2
      go_ret
      exact ⟨by rw [HN.out]; rfl, hk⟩

theorem ofL_drop {L : List Rw} {i j : Nat} (h : j < L.length) (hn : L[j].id ≠ i) : ofL (L.drop j) i = ofL (L.drop (j + 1)) i := by
  rw [drop_rw h]
  unfold ofL
  rw [List.find?_cons_of_neg (by simpa using hn)]
def OfIs (o : Option Rw) (w : World) (e : Ending) (w' : World) : Prop := e = .returned ((o.getD Rw.zero).val) ∧ Kept No w w'
set_option maxHeartbeats 4000000 in
theorem rof_any (a : Option Addr) (c : Nat) (L : List Rw) (i : Nat) (w : World) (hr : Row w a (RC L)) (hl : L.length ≤ 100000) :
    Calls Try.prog 19 #[.slice a L.length c, .int .u16 i] w (OfIs (ofL L i) w) := by
  generalize hR : ofL L i = R
  have HR := Lib.hid hR
  clear hR
  go_enter Try.func19, Try.ntmps19
  go_wp2
  have hB0 := Blk.new w 49 #[.int .u16 0, .int .i64 0, .int .i64 0]
  have hk0 := (Kept.refl No w).alloc (.cells #[.int .u16 0, .int .i64 0, .int .i64 0] 49)
  generalize w.alloc (.cells #[.int .u16 0, .int .i64 0, .int .i64 0] 49) = w1 at *
  generalize hgg : w.heap.size = g at hB0 ⊢
  have HGE := Lib.hid (show w.heap.size ≤ g by omega)
  clear hgg
  have hgl := hB0.lt
  have hr1 := hr.keptNo hk0
  go_loopw [5] (fun v wr => ∃ j : Nat, v = .int .i64 j ∧ j ≤ L.length ∧ Hid (ofL (L.drop j) i = R) ∧ Kept No w1 wr) (fun v _ => L.length - (intOf v).toNat)
  case atStart => exact ⟨0, rfl, by omega, Lib.hid (by rw [List.drop_zero]; exact HR.out), Kept.refl _ _⟩
  case round =>
    obtain ⟨j, rfl, hj, HG, hk⟩ := hrel
    have hBr := hB0.kept hk (fun f => f)
    have f0 := hBr.frozen 0
    have f1 := hBr.frozen 1
    have f2 := hBr.frozen 2
    have y0 := hBr.cell 0
    have y1 := hBr.cell 1
    have y2 := hBr.cell 2
    simp at y0 y1 y2
    have hgr := hBr.lt
    by_cases hlt : j < L.length
    · obtain ⟨b, off, rfl, hb, q0, q1, q2⟩ := (hr1.keptNo hk).rw3 hlt
      have HD := Lib.hid (drop_rw hlt)
      have HO := Lib.hid (fun h => ofL_drop (i := i) hlt h)
      generalize L[j] = p at *
      obtain ⟨id, st, n⟩ := p
      dsimp only at q0 q1 q2 HO
      by_cases he : id = i
      · subst he
        have HN : Hid (R = some ⟨id, st, n⟩) := Lib.hid (by rw [← HG.out, HD.out]; simp [ofL])
        clear HG HD HO
        go_wp2
        refine bodyPost_ret (v := (⟨id, st, n⟩ : Rw).val) (by simp [results, Try.results19, go_sem, y0, y1, y2, hgr, Rw.val]) rfl ⟨by rw [HN.out]; rfl, ?_⟩
        exact (((hk0.trans hk).setCell (.inl HGE.out) _).setCell (.inl HGE.out) _).setCell (.inl HGE.out) _
      · have heI : ((id : Int) == (i : Int)) = false := by simp; omega
        have HN : Hid (ofL (L.drop (j + 1)) i = R) := Lib.hid (by rw [← HO.out he]; exact HG.out)
        clear HG HD HO
        go_wp2
        go_roundw
        case rel => exact ⟨j + 1, by go_num, by omega, HN, hk⟩
        case measure => simp [intOf]; omega
    · have HN : Hid (R = none) := Lib.hid (by rw [← HG.out, List.drop_of_length_le (by omega)]; rfl)
      clear HG
      go_wp2
      refine bodyPost_ret (v := Rw.zero.val) (by simp [results, Try.results19, go_sem, y0, y1, y2, hgr, Rw.val, Rw.zero]) rfl ⟨by rw [HN.out]; rfl, ?_⟩
      exact (((hk0.trans hk).setCell (.inl HGE.out) _).setCell (.inl HGE.out) _).setCell (.inl HGE.out) _

end Go.Proofs.Ytlgbljohhnhhkaa
