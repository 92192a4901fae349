/-
  The document's with: a number's row is another one, or none: made by mkidg.py.
-/
import Derived.Test.YtlgbljohhnhhkaaIdF
namespace Go.Proofs.Ytlgbljohhnhhkaa
open Go.RowKit
set_option linter.unusedVariables false
set_option linter.unusedSimpArgs false
set_option maxRecDepth 100000

def withGo (i : Nat) (x : Rw) : List Rw → Bool → List Rw
  | [], d => if d then [] else [x]
  | r :: t, d => (if d = false ∧ i ≤ r.id then [x] else []) ++ ((if r.id = i then [] else [r]) ++ withGo i x t (d || decide (i ≤ r.id)))
theorem withGo_lo {i : Nat} {x : Rw} (d : Bool) : ∀ {A B : List Rw}, (∀ r ∈ A, r.id < i) → withGo i x (A ++ B) d = A ++ withGo i x B d := by
  intro A
  induction A with
  | nil => intro B _; rfl
  | cons r t ih =>
    intro B h
    have h1 := h r (by simp)
    rw [List.cons_append, withGo, if_neg (by omega), if_neg (by omega), decide_eq_false (by omega), Bool.or_false, ih (fun y hy => h y (List.mem_cons_of_mem _ hy))]
    rfl
theorem withGo_hiT {i : Nat} {x : Rw} : ∀ {C : List Rw}, (∀ r ∈ C, i < r.id) → withGo i x C true = C := by
  intro C
  induction C with
  | nil => intro _; rfl
  | cons r t ih =>
    intro h
    have h1 := h r (by simp)
    rw [withGo, if_neg (by simp), if_neg (by omega), Bool.true_or, ih (fun y hy => h y (List.mem_cons_of_mem _ hy))]
    rfl
theorem withGo_hiF {i : Nat} {x : Rw} {C : List Rw} (h : ∀ r ∈ C, i < r.id) : withGo i x C false = x :: C := by
  cases C with
  | nil => rfl
  | cons r t =>
    have h1 := h r (by simp)
    rw [withGo, if_pos ⟨rfl, by omega⟩, if_neg (by omega), decide_eq_true (by omega), Bool.or_true, withGo_hiT (fun y hy => h y (List.mem_cons_of_mem _ hy))]
    rfl
theorem withGo_put {L : List Rw} {i b : Nat} (x : Rw) (h : Asc b L) : withGo i x L (decide (x.id = 0)) = putR L i (if x.id = 0 then none else some x) := by
  have hc := cut_of i h
  generalize hA : loL L i = A at hc
  generalize hC : hiL L i = C at hc
  generalize hO : ofL L i = o at hc
  unfold putR
  rw [hA, hC]
  conv => lhs; rw [hc.all]
  rw [withGo_lo _ hc.lo]
  congr 1
  cases o with
  | none =>
    by_cases h0 : x.id = 0
    · rw [decide_eq_true h0, if_pos h0]
      exact withGo_hiT hc.hi
    · rw [decide_eq_false h0, if_neg h0]
      exact withGo_hiF hc.hi
  | some r =>
    have hr := hc.at_ r rfl
    show withGo i x (r :: C) _ = _
    by_cases h0 : x.id = 0
    · rw [decide_eq_true h0, if_pos h0, withGo, if_neg (by simp), if_pos hr, Bool.true_or, withGo_hiT hc.hi]
      rfl
    · rw [decide_eq_false h0, if_neg h0, withGo, if_pos ⟨rfl, by omega⟩, if_pos hr, decide_eq_true (by omega), Bool.or_true, withGo_hiT hc.hi]
      rfl

set_option maxHeartbeats 4000000 in
theorem rwith_any (a : Option Addr) (c : Nat) (L : List Rw) (i : Nat) (x : Rw) (w : World) (hr : Row w a (RC L)) (hl : L.length ≤ 100000) :
    Calls Try.prog 26 #[.slice a L.length c, .int .u16 i, x.val] w (OwnR 49 w (withGo i x L (decide (x.id = 0)))) := by
  obtain ⟨i0, hi, hz0, hz1, hz2⟩ := info_parts' info_rrow
  obtain ⟨xi, xs, xn⟩ := x
  show Calls _ _ #[_, _, .agg #[.int .u16 xi, .int .i64 xs, .int .i64 xn]] w _
  generalize hR : withGo i ⟨xi, xs, xn⟩ L (decide (xi = 0)) = R
  have HR := Lib.hid hR
  clear hR
  have hx0 : ((xi : Int) == 0) = decide (xi = 0) := by rw [Bool.eq_iff_iff]; simp
  generalize hd0 : decide (xi = 0) = d0 at *
  go_enter Try.func26, Try.ntmps26
  go_wp2
  have hB0 := Blk.new w 49 #[.int .u16 xi, .int .i64 xs, .int .i64 xn]
  have hk0 := (Kept.refl No w).alloc (.cells #[.int .u16 xi, .int .i64 xs, .int .i64 xn] 49)
  have hs0 : w.heap.size < (w.alloc (.cells #[.int .u16 xi, .int .i64 xs, .int .i64 xn] 49)).heap.size := by simp
  have HWS := Lib.hid (Nat.le_of_lt hs0)
  generalize w.alloc (.cells #[.int .u16 xi, .int .i64 xs, .int .i64 xn] 49) = w1 at *
  generalize hgg : w.heap.size = g at hB0 hs0 ⊢
  clear hgg hx0 hd0
  have hr1 := hr.keptNo hk0
  go_loopw [7, 8, 9] (fun s d v wr => ∃ (j : Nat) (M : List Rw) (db : Bool), v = .int .i64 j ∧ d = .bool db ∧ j ≤ L.length ∧ M.length ≤ 2 * j ∧ Hid (M ++ withGo i ⟨xi, xs, xn⟩ (L.drop j) db = R) ∧ wr.ownsRow w1.heap.size 49 3 s M.length (RC M) ∧ Kept No w1 wr) (fun _ _ v _ => L.length - (intOf v).toNat)
  case atStart => exact ⟨0, [], d0, rfl, rfl, by omega, by simp, Lib.hid (by rw [List.drop_zero]; exact HR.out), World.ownsRow_nil _ _ _ _, Kept.refl _ _⟩
  case round =>
    obtain ⟨j, M, db, rfl, rfl, hj, hm, HG, hown, hk⟩ := hrel
    have hsz := hk.size
    have hBr := hB0.kept hk (fun f => f)
    have y0 := hBr.cell 0
    have y1 := hBr.cell 1
    have y2 := hBr.cell 2
    simp at y0 y1 y2
    have hgr := hBr.lt
    by_cases hlt : j < L.length
    · obtain ⟨b, off, rfl, hb1, o0, o1, o2⟩ := hr1.rw3 hlt
      have HD := Lib.hid (drop_rw hlt)
      generalize L[j] = p at *
      obtain ⟨id, st, n⟩ := p
      dsimp only at o0 o1 o2
      have HQ := Lib.hid (And.intro o0 (And.intro o1 o2))
      have HBW := Lib.hid hb1
      have q0 := (hk.cell (p := ⟨b, off + j * 3, none⟩) hb1 (fun f => f)).trans o0
      have q1 := (hk.cell (p := ⟨b, off + j * 3 + 1, none⟩) hb1 (fun f => f)).trans o1
      have q2 := (hk.cell (p := ⟨b, off + j * 3 + 2, none⟩) hb1 (fun f => f)).trans o2
      have hb := Nat.lt_of_lt_of_le hb1 hk.size
      clear o0 o1 o2
      have HE : Hid (M ++ ((if db = false ∧ i ≤ id then [⟨xi, xs, xn⟩] else []) ++ ((if id = i then [] else [⟨id, st, n⟩]) ++ withGo i ⟨xi, xs, xn⟩ (L.drop (j + 1)) (db || decide (i ≤ id)))) = R) := Lib.hid (by rw [← HG.out, HD.out]; rfl)
      clear HG HD
      have fin : ∀ (M2 : List Rw) (w2 : World) (v2 : Value) (n2 : Nat) (xs2 : List Value), w2.ownsRow w1.heap.size 49 3 v2 n2 xs2 → n2 = M2.length → xs2 = RC M2 → w2.ownsRow w1.heap.size 49 3 v2 M2.length (RC M2) := fun M2 w2 v2 n2 xs2 h e1 e2 => by rw [← e1, ← e2]; exact h
      by_cases he : id = i
      · have heI : ((id : Int) != (i : Int)) = false := by simp; omega
        have heG : (i : Int) ≤ (id : Int) := by omega
        cases db with
        | false =>
          have HN : Hid ((M ++ [⟨xi, xs, xn⟩]) ++ withGo i ⟨xi, xs, xn⟩ (L.drop (j + 1)) true = R) := Lib.hid (by have := HE.out; rw [if_pos ⟨rfl, by omega⟩, if_pos he, decide_eq_true (by omega)] at this; simpa using this)
          clear HE he
          go_wp2_with (first
          | (at_builtin; refine wpList_append_own _ rfl (.tmp 30) (.tmp 32) _ rfl w1.heap.size 49 i0 _ 3 24 Try.underlying22 hi hz0 hz1 hz2 rfl (by decide) _ _ _ rfl (hown.alloc _) ⟨wr.heap.size, 0, none⟩ 1 1 (RC [⟨xi, xs, xn⟩]) rfl (RC_length3 _) (new_rw (p := ⟨xi, xs, xn⟩)) (RC_cell1 _) (by unfold maxLen; omega) (by omega) (by simp; omega) ?_; intro v2 w2 hown2 hg2 _; have hk2 := (hk.alloc (.cells #[.int .u16 xi, .int .i64 xs, .int .i64 xn] 49)).grown hg2 (own_no hown); have hs2 := hk2.size; have z0 := (hk2.cell (p := ⟨b, off + j * 3, none⟩) (HBW.out) (fun f => f)).trans HQ.out.1; have z1 := (hk2.cell (p := ⟨b, off + j * 3 + 1, none⟩) (HBW.out) (fun f => f)).trans HQ.out.2.1; have z2 := (hk2.cell (p := ⟨b, off + j * 3 + 2, none⟩) (HBW.out) (fun f => f)).trans HQ.out.2.2; have hb2 := Nat.lt_of_lt_of_le HBW.out hk2.size)
          | fail)
          go_roundw
          case rel => exact ⟨j + 1, M ++ [⟨xi, xs, xn⟩], true, by go_num, rfl, by omega, by simp; omega, HN, fin _ _ _ _ _ hown2 (by simp) (by rw [RC_append]), ((hk.alloc _).grown hg2 (own_no hown))⟩
          case measure => simp [intOf]; omega
        | true =>
          have HN : Hid (M ++ withGo i ⟨xi, xs, xn⟩ (L.drop (j + 1)) true = R) := Lib.hid (by have := HE.out; rw [if_neg (by simp), if_pos he] at this; simpa using this)
          clear HE he
          go_wp2
          go_roundw
          case rel => exact ⟨j + 1, M, true, by go_num, rfl, by omega, by omega, HN, hown, hk⟩
          case measure => simp [intOf]; omega
      · have heI : ((id : Int) != (i : Int)) = true := by simp; omega
        cases db with
        | false =>
          by_cases hle : i ≤ id
          · have heG : (i : Int) ≤ (id : Int) := by omega
            have HN : Hid ((M ++ [⟨xi, xs, xn⟩] ++ [⟨id, st, n⟩]) ++ withGo i ⟨xi, xs, xn⟩ (L.drop (j + 1)) true = R) := Lib.hid (by have := HE.out; rw [if_pos ⟨rfl, hle⟩, if_neg he, decide_eq_true hle] at this; simpa using this)
            clear HE he
            go_wp2_with (first
              | (at_builtin; refine wpList_append_own _ rfl (.tmp 30) (.tmp 32) _ rfl w1.heap.size 49 i0 _ 3 24 Try.underlying22 hi hz0 hz1 hz2 rfl (by decide) _ _ _ rfl (hown.alloc _) ⟨wr.heap.size, 0, none⟩ 1 1 (RC [⟨xi, xs, xn⟩]) rfl (RC_length3 _) (new_rw (p := ⟨xi, xs, xn⟩)) (RC_cell1 _) (by unfold maxLen; omega) (by omega) (by simp; omega) ?_; intro v2 w2 hown2 hg2 _; have hk2 := (hk.alloc (.cells #[.int .u16 xi, .int .i64 xs, .int .i64 xn] 49)).grown hg2 (own_no hown); have hs2 := hk2.size; have z0 := (hk2.cell (p := ⟨b, off + j * 3, none⟩) (HBW.out) (fun f => f)).trans HQ.out.1; have z1 := (hk2.cell (p := ⟨b, off + j * 3 + 1, none⟩) (HBW.out) (fun f => f)).trans HQ.out.2.1; have z2 := (hk2.cell (p := ⟨b, off + j * 3 + 2, none⟩) (HBW.out) (fun f => f)).trans HQ.out.2.2; have hb2 := Nat.lt_of_lt_of_le HBW.out hk2.size)
              | (at_builtin; refine wpList_append_own _ rfl (.tmp 41) (.tmp 46) _ rfl w1.heap.size 49 i0 _ 3 24 Try.underlying22 hi hz0 hz1 hz2 rfl (by decide) _ _ _ rfl (hown2.alloc _) ⟨w2.heap.size, 0, none⟩ 1 1 (RC [⟨id, st, n⟩]) rfl (RC_length3 _) (new_rw (p := ⟨id, st, n⟩)) (RC_cell1 _) (by unfold maxLen; omega) (by omega) (by simp; omega) ?_; intro v3 w3 hown3 hg3 _))
            go_roundw
            case rel => exact ⟨j + 1, M ++ [⟨xi, xs, xn⟩] ++ [⟨id, st, n⟩], true, by go_num, rfl, by omega, by simp; omega, HN, fin _ _ _ _ _ hown3 (by simp) (by rw [RC_append, RC_append]), (hk2.alloc _).grown hg3 (own_no hown2)⟩
            case measure => simp [intOf]; omega
          · have heG : ¬ (i : Int) ≤ (id : Int) := by omega
            have HN : Hid ((M ++ [⟨id, st, n⟩]) ++ withGo i ⟨xi, xs, xn⟩ (L.drop (j + 1)) false = R) := Lib.hid (by have := HE.out; rw [if_neg (by omega), if_neg he, decide_eq_false hle] at this; simpa using this)
            clear HE he hle
            go_wp2_with (first
          | (at_builtin; refine wpList_append_own _ rfl (.tmp 41) (.tmp 46) _ rfl w1.heap.size 49 i0 _ 3 24 Try.underlying22 hi hz0 hz1 hz2 rfl (by decide) _ _ _ rfl (hown.alloc _) ⟨wr.heap.size, 0, none⟩ 1 1 (RC [⟨id, st, n⟩]) rfl (RC_length3 _) (new_rw (p := ⟨id, st, n⟩)) (RC_cell1 _) (by unfold maxLen; omega) (by omega) (by simp; omega) ?_; intro v2 w2 hown2 hg2 _)
          | fail)
            go_roundw
            case rel => exact ⟨j + 1, M ++ [⟨id, st, n⟩], false, by go_num, rfl, by omega, by simp; omega, HN, fin _ _ _ _ _ hown2 (by simp) (by rw [RC_append]), ((hk.alloc _).grown hg2 (own_no hown))⟩
            case measure => simp [intOf]; omega
        | true =>
          have HN : Hid ((M ++ [⟨id, st, n⟩]) ++ withGo i ⟨xi, xs, xn⟩ (L.drop (j + 1)) true = R) := Lib.hid (by have := HE.out; rw [if_neg (by simp), if_neg he] at this; simpa using this)
          clear HE he
          go_wp2_with (first
          | (at_builtin; refine wpList_append_own _ rfl (.tmp 41) (.tmp 46) _ rfl w1.heap.size 49 i0 _ 3 24 Try.underlying22 hi hz0 hz1 hz2 rfl (by decide) _ _ _ rfl (hown.alloc _) ⟨wr.heap.size, 0, none⟩ 1 1 (RC [⟨id, st, n⟩]) rfl (RC_length3 _) (new_rw (p := ⟨id, st, n⟩)) (RC_cell1 _) (by unfold maxLen; omega) (by omega) (by simp; omega) ?_; intro v2 w2 hown2 hg2 _)
          | fail)
          go_roundw
          case rel => exact ⟨j + 1, M ++ [⟨id, st, n⟩], true, by go_num, rfl, by omega, by simp; omega, HN, fin _ _ _ _ _ hown2 (by simp) (by rw [RC_append]), ((hk.alloc _).grown hg2 (own_no hown))⟩
          case measure => simp [intOf]; omega
    · have HG2 : Hid (M ++ (if db then [] else [⟨xi, xs, xn⟩]) = R) := Lib.hid (by have := HG.out; rwa [List.drop_of_length_le (by omega)] at this)
      clear HG
      cases db with
      | true =>
        have HN : Hid (M = R) := Lib.hid (by simpa using HG2.out)
        go_wp2
        go_ret
        exact ownR_of (own_mono hown HWS.out) (by rw [HN.out]) (by rw [HN.out]) (hk0.trans hk)
      | false =>
        have HN : Hid (M ++ [⟨xi, xs, xn⟩] = R) := Lib.hid (by simpa using HG2.out)
        go_wp2_with (first
          | (at_builtin; refine wpList_append_own _ rfl (.tmp 50) (.tmp 52) _ rfl w1.heap.size 49 i0 _ 3 24 Try.underlying22 hi hz0 hz1 hz2 rfl (by decide) _ _ _ rfl (hown.alloc _) ⟨wr.heap.size, 0, none⟩ 1 1 (RC [⟨xi, xs, xn⟩]) rfl (RC_length3 _) (new_rw (p := ⟨xi, xs, xn⟩)) (RC_cell1 _) (by unfold maxLen; omega) (by omega) (by simp; omega) ?_; intro v2 w2 hown2 hg2 _)
          | fail)
        go_ret
        exact ownR_of (own_mono hown2 HWS.out) (by rw [← HN.out]; simp) (by rw [← HN.out, RC_append]) (hk0.trans ((hk.alloc _).grown hg2 (own_no hown)))

end Go.Proofs.Ytlgbljohhnhhkaa
