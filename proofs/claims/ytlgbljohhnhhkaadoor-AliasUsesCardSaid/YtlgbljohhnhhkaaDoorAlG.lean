/-
  The document's Use: made by mkalg.py.
-/
import Derived.Test.YtlgbljohhnhhkaaDoorAlF
import Derived.Test.YtlgbljohhnhhkaaDoorAlJ
import Derived.OwnWalk
namespace Go.Proofs.YtlgbljohhnhhkaaDoor
open Go.RowKit
set_option linter.unusedVariables false
set_option linter.unusedSimpArgs false
set_option maxRecDepth 100000

def withGo (i : Nat) (x : Rw) : List Rw → Bool → List Rw
  | [], d => if d then [] else [x]
  | r :: t, d => (if d = false ∧ i ≤ r.id then [x] else []) ++ ((if r.id = i then [] else [r]) ++ withGo i x t (d || decide (i ≤ r.id)))
theorem withGo_lo {i : Nat} {x : Rw} (d : Bool) : ∀ {A B : List Rw}, (∀ r ∈ A, r.id < i) → withGo i x (A ++ B) d = A ++ withGo i x B d := by
  intro A
  induction A with
  | nil => intro B _; rfl
  | cons r t ih =>
    intro B h
    have h1 := h r (by simp)
    rw [List.cons_append, withGo, if_neg (by omega), if_neg (by omega), decide_eq_false (by omega), Bool.or_false, ih (fun y hy => h y (List.mem_cons_of_mem _ hy))]
    rfl
theorem withGo_hiT {i : Nat} {x : Rw} : ∀ {C : List Rw}, (∀ r ∈ C, i < r.id) → withGo i x C true = C := by
  intro C
  induction C with
  | nil => intro _; rfl
  | cons r t ih =>
    intro h
    have h1 := h r (by simp)
    rw [withGo, if_neg (by simp), if_neg (by omega), Bool.true_or, ih (fun y hy => h y (List.mem_cons_of_mem _ hy))]
    rfl
theorem withGo_hiF {i : Nat} {x : Rw} {C : List Rw} (h : ∀ r ∈ C, i < r.id) : withGo i x C false = x :: C := by
  cases C with
  | nil => rfl
  | cons r t =>
    have h1 := h r (by simp)
    rw [withGo, if_pos ⟨rfl, by omega⟩, if_neg (by omega), decide_eq_true (by omega), Bool.or_true, withGo_hiT (fun y hy => h y (List.mem_cons_of_mem _ hy))]
    rfl
theorem withGo_put {L : List Rw} {i b : Nat} (x : Rw) (h : Asc b L) : withGo i x L false = putR L i (some x) := by
  have hc := cut_of i h
  generalize hA : loL L i = A at hc
  generalize hC : hiL L i = C at hc
  generalize hO : ofL L i = o at hc
  unfold putR
  rw [hA, hC]
  conv => lhs; rw [hc.all]
  rw [withGo_lo _ hc.lo]
  congr 1
  cases o with
  | none => exact withGo_hiF hc.hi
  | some r =>
    have hr := hc.at_ r rfl
    show withGo i x (r :: C) _ = _
    rw [withGo, if_pos ⟨rfl, by omega⟩, if_pos hr, decide_eq_true (by omega), Bool.or_true, withGo_hiT hc.hi]
    rfl

/-- A call that answers a table, a topic, and an error. -/
def UseIs (R : List Rw × ByteArray × Int) (w : World) (e : Ending) (w' : World) : Prop :=
  ∃ a c, e = .returned (.tuple #[.slice a R.1.length c, .string R.2.1, .int .i64 R.2.2]) ∧ Tb w' a c R.1 ∧ Kept No w w'
theorem useIs_of {R : List Rw × ByteArray × Int} {L : List Rw} {s : ByteArray} {z : Int} {a : Option Addr} {c : Nat} {w w' : World} (h1 : R = (L, s, z)) (h2 : Tb w' a c L) (h3 : Kept No w w') : UseIs R w (.returned (.tuple #[.slice a L.length c, .string s, .int .i64 z])) w' := by
  subst h1
  exact ⟨a, c, rfl, h2, h3⟩
theorem own_use {R : List Rw × ByteArray × Int} {M : List Rw} {s : ByteArray} {z : Int} {w w' : World} {v : Value} {n base : Nat} {xs : List Value} {t : TypeId} (h1 : R = (M, s, z)) (h : w'.ownsRow base t 2 v n xs) (hn : n = M.length) (hx : xs = RC M) (hk : Kept No w w') : UseIs R w (.returned (.tuple #[v, .string s, .int .i64 z])) w' := by
  subst hn hx
  have hv : ∃ a c, v = .slice a M.length c := by
    rcases h.2 with ⟨hv, h0⟩ | ⟨g, cap, cur, hv, _⟩
    · exact ⟨none, 0, by rw [hv, h0]⟩
    · exact ⟨_, _, hv⟩
  obtain ⟨a, c, rfl⟩ := hv
  exact useIs_of h1 (own_tb h) hk

set_option maxHeartbeats 4000000 in
theorem ruse_put (a : Option Addr) (c : Nat) (L : List Rw) (most i : Nat) (s : ByteArray) (w : World) (hr : Row w a (RC L)) (hl : L.length ≤ 100000) (hs : s.size ≤ 100000) (h0 : i ≠ 0) (hm : i ≤ most) (hn : nameB s = true) (hsz : s.size ≠ 0) :
    Calls Tryd.prog 11 #[.slice a L.length c, .int .u16 most, .int .u16 i, .string s] w (UseIs (withGo i ⟨i, s⟩ L false, s, 0) w) := by
  obtain ⟨i0, hi, hz0, hz1, hz2⟩ := info_parts' info_rrow
  have cN := fun wx => rname_any s wx (by omega)
  rw [hn] at cN
  have HNM := Lib.hid cN
  have h0I : ((i : Int) == 0) = false := by simp; omega
  have hmI : ¬ (most : Int) < (i : Int) := by omega
  have hsE := isEmpty_of (s := s) (by omega)
  have hsN : (!s.toList.isEmpty) = true := by rw [hsE]; rfl
  have hs9 : s.size ≤ 9223372036854775807 := by omega
  generalize hR : withGo i ⟨i, s⟩ L false = R
  have HR := Lib.hid hR
  clear hR cN hn hsz h0 hs
  go_enter Tryd.func11, Tryd.ntmps11
  go_wp2_with (go_at_call 16; refine (HNM.out _).mono ?_; rintro e wn ⟨rfl, hkn⟩)
  go_loopw [13, 14, 15] (fun s9 d v wr => ∃ (j : Nat) (M : List Rw) (db : Bool), v = .int .i64 j ∧ d = .bool db ∧ j ≤ L.length ∧ M.length ≤ 2 * j ∧ Hid (M ++ withGo i ⟨i, s⟩ (L.drop j) db = R) ∧ wr.ownsRow w.heap.size 25 2 s9 M.length (RC M) ∧ Kept No w wr) (fun _ _ v _ => L.length - (intOf v).toNat)
  case atStart => exact ⟨0, [], false, rfl, rfl, by omega, by simp, Lib.hid (by rw [List.drop_zero]; exact HR.out), World.ownsRow_nil _ _ _ _, hkn⟩
  case round =>
    obtain ⟨j, M, db, rfl, rfl, hj, hm2, HG, hown, hk⟩ := hrel
    have hsz := hk.size
    by_cases hlt : j < L.length
    · obtain ⟨b, off, rfl, hb1, o0, o1⟩ := hr.rw3 hlt
      have HD := Lib.hid (drop_rw hlt)
      generalize L[j] = p at *
      obtain ⟨id, tx⟩ := p
      dsimp only at o0 o1
      have HQ := Lib.hid (And.intro o0 o1)
      have HBW := Lib.hid hb1
      have q0 := (hk.cell (p := ⟨b, off + j * 2, none⟩) hb1 (fun f => f)).trans o0
      have q1 := (hk.cell (p := ⟨b, off + j * 2 + 1, none⟩) hb1 (fun f => f)).trans o1
      have hb := Nat.lt_of_lt_of_le hb1 hk.size
      clear o0 o1
      have HE : Hid (M ++ ((if db = false ∧ i ≤ id then [⟨i, s⟩] else []) ++ ((if id = i then [] else [⟨id, tx⟩]) ++ withGo i ⟨i, s⟩ (L.drop (j + 1)) (db || decide (i ≤ id)))) = R) := Lib.hid (by rw [← HG.out, HD.out]; rfl)
      clear HG HD
      have fin : ∀ (M2 : List Rw) (w2 : World) (v2 : Value) (n2 : Nat) (xs2 : List Value), w2.ownsRow w.heap.size 25 2 v2 n2 xs2 → n2 = M2.length → xs2 = RC M2 → w2.ownsRow w.heap.size 25 2 v2 M2.length (RC M2) := fun M2 w2 v2 n2 xs2 h e1 e2 => by rw [← e1, ← e2]; exact h
      by_cases he : id = i
      · have heI : ((id : Int) != (i : Int)) = false := by simp; omega
        have heG : (i : Int) ≤ (id : Int) := by omega
        cases db with
        | false =>
          have HN : Hid ((M ++ [⟨i, s⟩]) ++ withGo i ⟨i, s⟩ (L.drop (j + 1)) true = R) := Lib.hid (by have := HE.out; rw [if_pos ⟨rfl, by omega⟩, if_pos he, decide_eq_true (by omega)] at this; simpa using this)
          clear HE he
          go_wp2_with (first
          | (at_builtin; refine wpList_append_own _ rfl (.tmp 63) (.tmp 67) _ rfl w.heap.size 25 i0 _ 2 24 Tryd.underlying22 hi hz0 hz1 hz2 rfl (by decide) _ _ _ rfl (hown.alloc _) ⟨wr.heap.size, 0, none⟩ 1 1 (RC [⟨i, s⟩]) rfl (RC_length3 _) (new_rw (p := ⟨i, s⟩)) (RC_cell1 _) (by unfold maxLen; omega) (by omega) (by simp; omega) ?_; intro v2 w2 hown2 hg2 _; have hk2 := (hk.alloc (.cells #[.int .u16 i, .string s] 25)).grown hg2 (own_no hown); have hs2 := hk2.size; have z0 := (hk2.cell (p := ⟨b, off + j * 2, none⟩) (HBW.out) (fun f => f)).trans HQ.out.1; have z1 := (hk2.cell (p := ⟨b, off + j * 2 + 1, none⟩) (HBW.out) (fun f => f)).trans HQ.out.2; have hb2 := Nat.lt_of_lt_of_le HBW.out hk2.size)
          | fail)
          go_roundw
          case rel => exact ⟨j + 1, M ++ [⟨i, s⟩], true, by go_num, rfl, by omega, by simp; omega, HN, fin _ _ _ _ _ hown2 (by simp) (by rw [RC_append]), ((hk.alloc _).grown hg2 (own_no hown))⟩
          case measure => simp [intOf]; omega
        | true =>
          have HN : Hid (M ++ withGo i ⟨i, s⟩ (L.drop (j + 1)) true = R) := Lib.hid (by have := HE.out; rw [if_neg (by simp), if_pos he] at this; simpa using this)
          clear HE he
          go_wp2
          go_roundw
          case rel => exact ⟨j + 1, M, true, by go_num, rfl, by omega, by omega, HN, hown, hk⟩
          case measure => simp [intOf]; omega
      · have heI : ((id : Int) != (i : Int)) = true := by simp; omega
        cases db with
        | false =>
          by_cases hle : i ≤ id
          · have heG : (i : Int) ≤ (id : Int) := by omega
            have HN : Hid ((M ++ [⟨i, s⟩] ++ [⟨id, tx⟩]) ++ withGo i ⟨i, s⟩ (L.drop (j + 1)) true = R) := Lib.hid (by have := HE.out; rw [if_pos ⟨rfl, hle⟩, if_neg he, decide_eq_true hle] at this; simpa using this)
            clear HE he
            go_wp2_with (first
              | (at_builtin; refine wpList_append_own _ rfl (.tmp 63) (.tmp 67) _ rfl w.heap.size 25 i0 _ 2 24 Tryd.underlying22 hi hz0 hz1 hz2 rfl (by decide) _ _ _ rfl (hown.alloc _) ⟨wr.heap.size, 0, none⟩ 1 1 (RC [⟨i, s⟩]) rfl (RC_length3 _) (new_rw (p := ⟨i, s⟩)) (RC_cell1 _) (by unfold maxLen; omega) (by omega) (by simp; omega) ?_; intro v2 w2 hown2 hg2 _; have hk2 := (hk.alloc (.cells #[.int .u16 i, .string s] 25)).grown hg2 (own_no hown); have hs2 := hk2.size; have z0 := (hk2.cell (p := ⟨b, off + j * 2, none⟩) (HBW.out) (fun f => f)).trans HQ.out.1; have z1 := (hk2.cell (p := ⟨b, off + j * 2 + 1, none⟩) (HBW.out) (fun f => f)).trans HQ.out.2; have hb2 := Nat.lt_of_lt_of_le HBW.out hk2.size)
              | (at_builtin; refine wpList_append_own _ rfl (.tmp 76) (.tmp 81) _ rfl w.heap.size 25 i0 _ 2 24 Tryd.underlying22 hi hz0 hz1 hz2 rfl (by decide) _ _ _ rfl (hown2.alloc _) ⟨w2.heap.size, 0, none⟩ 1 1 (RC [⟨id, tx⟩]) rfl (RC_length3 _) (new_rw (p := ⟨id, tx⟩)) (RC_cell1 _) (by unfold maxLen; omega) (by omega) (by simp; omega) ?_; intro v3 w3 hown3 hg3 _))
            go_roundw
            case rel => exact ⟨j + 1, M ++ [⟨i, s⟩] ++ [⟨id, tx⟩], true, by go_num, rfl, by omega, by simp; omega, HN, fin _ _ _ _ _ hown3 (by simp) (by rw [RC_append, RC_append]), (hk2.alloc _).grown hg3 (own_no hown2)⟩
            case measure => simp [intOf]; omega
          · have heG : ¬ (i : Int) ≤ (id : Int) := by omega
            have HN : Hid ((M ++ [⟨id, tx⟩]) ++ withGo i ⟨i, s⟩ (L.drop (j + 1)) false = R) := Lib.hid (by have := HE.out; rw [if_neg (by omega), if_neg he, decide_eq_false hle] at this; simpa using this)
            clear HE he hle
            go_wp2_with (first
          | (at_builtin; refine wpList_append_own _ rfl (.tmp 76) (.tmp 81) _ rfl w.heap.size 25 i0 _ 2 24 Tryd.underlying22 hi hz0 hz1 hz2 rfl (by decide) _ _ _ rfl (hown.alloc _) ⟨wr.heap.size, 0, none⟩ 1 1 (RC [⟨id, tx⟩]) rfl (RC_length3 _) (new_rw (p := ⟨id, tx⟩)) (RC_cell1 _) (by unfold maxLen; omega) (by omega) (by simp; omega) ?_; intro v2 w2 hown2 hg2 _)
          | fail)
            go_roundw
            case rel => exact ⟨j + 1, M ++ [⟨id, tx⟩], false, by go_num, rfl, by omega, by simp; omega, HN, fin _ _ _ _ _ hown2 (by simp) (by rw [RC_append]), ((hk.alloc _).grown hg2 (own_no hown))⟩
            case measure => simp [intOf]; omega
        | true =>
          have HN : Hid ((M ++ [⟨id, tx⟩]) ++ withGo i ⟨i, s⟩ (L.drop (j + 1)) true = R) := Lib.hid (by have := HE.out; rw [if_neg (by simp), if_neg he] at this; simpa using this)
          clear HE he
          go_wp2_with (first
          | (at_builtin; refine wpList_append_own _ rfl (.tmp 76) (.tmp 81) _ rfl w.heap.size 25 i0 _ 2 24 Tryd.underlying22 hi hz0 hz1 hz2 rfl (by decide) _ _ _ rfl (hown.alloc _) ⟨wr.heap.size, 0, none⟩ 1 1 (RC [⟨id, tx⟩]) rfl (RC_length3 _) (new_rw (p := ⟨id, tx⟩)) (RC_cell1 _) (by unfold maxLen; omega) (by omega) (by simp; omega) ?_; intro v2 w2 hown2 hg2 _)
          | fail)
          go_roundw
          case rel => exact ⟨j + 1, M ++ [⟨id, tx⟩], true, by go_num, rfl, by omega, by simp; omega, HN, fin _ _ _ _ _ hown2 (by simp) (by rw [RC_append]), ((hk.alloc _).grown hg2 (own_no hown))⟩
          case measure => simp [intOf]; omega
    · have HG2 : Hid (M ++ (if db then [] else [⟨i, s⟩]) = R) := Lib.hid (by have := HG.out; rwa [List.drop_of_length_le (by omega)] at this)
      clear HG
      cases db with
      | true =>
        have HN : Hid (M = R) := Lib.hid (by simpa using HG2.out)
        go_wp2
        go_ret3
        exact own_use (M := M) (by rw [HN.out]) hown rfl rfl hk
      | false =>
        have HN : Hid (M ++ [⟨i, s⟩] = R) := Lib.hid (by simpa using HG2.out)
        go_wp2_with (first
          | (at_builtin; refine wpList_append_own _ rfl (.tmp 85) (.tmp 89) _ rfl w.heap.size 25 i0 _ 2 24 Tryd.underlying22 hi hz0 hz1 hz2 rfl (by decide) _ _ _ rfl (hown.alloc _) ⟨wr.heap.size, 0, none⟩ 1 1 (RC [⟨i, s⟩]) rfl (RC_length3 _) (new_rw (p := ⟨i, s⟩)) (RC_cell1 _) (by unfold maxLen; omega) (by omega) (by simp; omega) ?_; intro v2 w2 hown2 hg2 _)
          | fail)
        go_ret3
        exact own_use (M := R) rfl hown2 (by rw [← HN.out]; simp) (by rw [← HN.out, RC_append]) ((hk.alloc _).grown hg2 (own_no hown))

end Go.Proofs.YtlgbljohhnhhkaaDoor
