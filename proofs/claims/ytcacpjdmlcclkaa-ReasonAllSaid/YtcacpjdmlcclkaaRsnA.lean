/-
  All codes: package reason's, and the document's.
-/
import Derived.Test.YtcacpjdmlcclkaaRsnR
namespace Go.Proofs.Ytcacpjdmlcclkaa
open Go.RowKit
set_option linter.unusedVariables false
set_option linter.unusedSimpArgs false

/-- Numbers as bytes. -/
def bl (l : List Nat) : List UInt8 := l.map UInt8.ofNat
theorem bl_one (c : Nat) (h : c < 256) : B8 (bl [c]) = [.int .u8 c] := by
  simp [bl, B8, UInt8.toNat_ofNat_of_lt' (show c < UInt8.size from h)]
theorem bl_append (l m : List Nat) : bl (l ++ m) = bl l ++ bl m := by simp [bl]
/-- What the document has, of those below j. -/
def Fl (l : List (Nat × Nat)) (j : Nat) : List UInt8 := bl ((List.range j).filter (knownB l))
theorem Fl_yes (l : List (Nat × Nat)) (j : Nat) (h : knownB l j = true) : Fl l (j + 1) = Fl l j ++ bl [j] := by
  unfold Fl
  rw [List.range_succ, List.filter_append, bl_append]
  simp [h]
theorem Fl_no (l : List (Nat × Nat)) (j : Nat) (h : knownB l j = false) : Fl l (j + 1) = Fl l j := by
  unfold Fl
  rw [List.range_succ, List.filter_append, bl_append]
  simp [h, bl]
theorem Fl_len (l : List (Nat × Nat)) (j : Nat) : (Fl l j).length ≤ j := by
  unfold Fl bl
  rw [List.length_map]
  exact Nat.le_trans (List.length_filter_le _ _) (by simp)
theorem Fl_zero (l : List (Nat × Nat)) : Fl l 0 = [] := rfl

/-- A call that answers bytes of its own, or none. -/
def Gives (w : World) (l : List UInt8) (e : Ending) (w' : World) : Prop :=
  ∃ v, e = .returned v ∧ w'.ownsRow w.heap.size 5 1 v l.length (B8 l) ∧ Kept No w w'
theorem gives_of {w w' : World} {v : Value} {l : List UInt8} {n : Nat} {xs : List Value} (h : w'.ownsRow w.heap.size 5 1 v n xs) (hn : n = l.length) (hx : xs = B8 l) (hk : Kept No w w') : Gives w l (.returned v) w' := by
  subst hn hx
  exact ⟨v, rfl, h, hk⟩

theorem own_keptNo {w w' : World} {base : Nat} {e : TypeId} {size n : Nat} {v : Value} {xs : List Value} (h : w.ownsRow base e size v n xs) (hk : Kept No w w') : w'.ownsRow base e size v n xs := by
  refine ⟨h.1, ?_⟩
  rcases h.2 with hn | ⟨g, cap, cur, hv, hb, hg, rest⟩
  · exact .inl hn
  · exact .inr ⟨g, cap, cur, hv, hb, (hk.block g (Array.getElem?_eq_some_iff.1 hg).1 (fun f => f)).trans hg, rest⟩

set_option maxRecDepth 100000 in
set_option maxHeartbeats 1000000 in
theorem rall_any (v k : Int) (w : World) :
    Calls Try.prog 11 #[.int .i64 v, .int .i64 k] w (Gives w (bl (allL (sp v k)))) := by
  obtain ⟨i0, hi, hz0, hz1, hz2⟩ := info_parts info_u8
  have cK := fun c wx (hc : c < 256) => rknown_any v k c wx hc
  have hA : Fl (sp v k) 256 = bl (allL (sp v k)) := by unfold Fl; rw [all_filter]
  rw [← hA]
  clear hA
  generalize sp v k = l at *
  have HK := Lib.hid cK
  clear cK
  go_enter Try.func11, Try.ntmps11
  go_wp2
  go_loopw [5, 6] (fun s i wr => ∃ (j : Nat) (p : List UInt8), i = .int .i64 j ∧ j ≤ 256 ∧ Hid (p = Fl l j) ∧ p.length ≤ j ∧ wr.ownsRow w.heap.size 5 1 s p.length (B8 p) ∧ Kept No w wr) (fun _ i _ => 256 - (intOf i).toNat)
  case atStart => exact ⟨0, [], rfl, by omega, Lib.hid rfl, by simp, World.ownsRow_nil _ _ _ _, Kept.refl _ _⟩
  case round =>
    obtain ⟨j, p, rfl, hj, HP, hpl, hown, hk⟩ := hrel
    have hsz := hk.size
    by_cases hlt : j < 256
    · have hjI : (j : Int) < 256 := by omega
      rcases hY : knownB l j with _ | _
      · have HC : Hid (∀ wx, Calls Try.prog 7 #[.int .i64 v, .int .i64 k, .int .u8 j] wx fun e w' => e = .returned (.bool false) ∧ Kept No wx w') := Lib.hid (fun wx => by have := HK.out j wx hlt; rw [hY] at this; exact this)
        have HN := Lib.hid (Fl_no l j hY)
        clear hY
        go_wp2_with (go_at_call 7; refine (HC.out _).mono ?_; rintro e w1 ⟨rfl, hk1⟩)
        go_roundw
        case rel => exact ⟨j + 1, p, by go_num, by omega, Lib.hid (by rw [HN.out, HP.out]), by omega, own_keptNo hown hk1, hk.trans hk1⟩
        case measure => simp [intOf]; omega
      · have HC : Hid (∀ wx, Calls Try.prog 7 #[.int .i64 v, .int .i64 k, .int .u8 j] wx fun e w' => e = .returned (.bool true) ∧ Kept No wx w') := Lib.hid (fun wx => by have := HK.out j wx hlt; rw [hY] at this; exact this)
        have HN := Lib.hid (Fl_yes l j hY)
        clear hY
        go_wp2_with (first
          | (go_at_call 7; refine (HC.out _).mono ?_; rintro e w1 ⟨rfl, hk1⟩; have hown1 := own_keptNo hown hk1)
          | (at_builtin; refine wpList_append_row _ rfl _ _ _ rfl w.heap.size 5 i0 _ 1 Try.underlying24 hi hz0 hz1 hz2 rfl _ _ _ rfl (hown1.alloc _) (some ⟨w1.heap.size, 0, none⟩) 1 1 (B8 (bl [j])) rfl ?c1 ?c2 (by simp) (B8_one _) ?c3 ?c4 ?c5 ?_; rotate_right; intro v2 w2 hown2 hg2 hv2))
        case c1 => rw [bl_one j hlt]; rfl
        case c2 => rw [bl_one j hlt]; exact .of_cells (new_cells w1 _ _ _ rfl)
        case c3 => unfold maxLen; omega
        case c4 => omega
        case c5 => have := hk1.size; simp; omega
        go_roundw
        case rel => exact ⟨j + 1, p ++ bl [j], by go_num, by omega, Lib.hid (by rw [HN.out, HP.out]), by simp [bl]; omega, by simpa [B8_append, bl] using hown2, ((hk.trans hk1).alloc _).grown hg2 (own_no hown1)⟩
        case measure => simp [intOf]; omega
    · have hj6 : j = 256 := by omega
      go_wp2
      go_ret
      exact gives_of hown (by rw [HP.out, hj6]) (by rw [HP.out, hj6]) hk

/-- What the program has of the spans before j, and of m codes from lo on. -/
def Il (l : List (Nat × Nat)) (j lo m : Nat) : List UInt8 := bl (allL (l.take j)) ++ bl (List.range' lo m)
theorem Il_zero (l : List (Nat × Nat)) (j lo : Nat) : Il l j lo 0 = bl (allL (l.take j)) := by simp [Il, bl]
theorem Il_succ (l : List (Nat × Nat)) (j lo m : Nat) : Il l j lo (m + 1) = Il l j lo m ++ bl [lo + m] := by
  unfold Il
  rw [List.range'_concat, bl_append, List.append_assoc]
  simp
theorem Il_full (l : List (Nat × Nat)) (j : Nat) (h : j < l.length) : Il l j l[j].1 (l[j].2 + 1 - l[j].1) = bl (allL (l.take (j + 1))) := by
  unfold Il
  rw [List.take_succ_eq_append_getElem h, ← bl_append]
  unfold allL
  rw [List.flatMap_append]
  simp
theorem own_far {w : World} {B n g : Nat} {e t : TypeId} {v : Value} {xs : List Value} {cs : Array Value} {size : Nat} (h : w.ownsRow B e size v n xs) (hb : Blk w g t cs) (ht : t ≠ e) : v.ownBlock ≠ some g := by
  intro hv
  rcases h.2 with ⟨rfl, _⟩ | ⟨g', cap, cur, rfl, _, hg, _⟩
  · simp [Value.ownBlock] at hv
  · simp [Value.ownBlock] at hv
    subst hv
    unfold Blk at hb
    rw [hb] at hg
    simp at hg
    exact ht hg.2

theorem own_base {w : World} {B B' n : Nat} {e : TypeId} {v : Value} {xs : List Value} {size : Nat} (h : w.ownsRow B e size v n xs) (hb : B' ≤ B) : w.ownsRow B' e size v n xs := by
  refine ⟨h.1, ?_⟩
  rcases h.2 with hn | ⟨g, cap, cur, hv, hb2, rest⟩
  · exact .inl hn
  · exact .inr ⟨g, cap, cur, hv, by omega, rest⟩

set_option maxRecDepth 100000 in
set_option maxHeartbeats 1000000 in
theorem all_any (v k : Int) (w : World) :
    Calls Try.prog 10 #[.int .i64 v, .int .i64 k] w (Gives w (bl (allL (sp v k)))) := by
  obtain ⟨i0, hi, hz0, hz1, hz2⟩ := info_parts info_u8
  have cs := spans_any v k
  have hl := sp_len v k
  have hg := sp_get v k
  generalize sp v k = l at *
  have HS := Lib.hid cs
  have HG := Lib.hid hg
  clear cs hg
  go_enter Try.func10, Try.ntmps10
  go_wp2_with (go_at_call 12; refine (HS.out _).mono ?_; rintro e w1 ⟨a, rfl, hr, hk⟩)
  go_loopw [5, 13] (fun s i wr => ∃ (j : Nat) (p : List UInt8), i = .int .i64 j ∧ j ≤ l.length ∧ Hid (p = bl (allL (l.take j))) ∧ p.length ≤ 163 * j ∧ wr.ownsRow w1.heap.size 5 1 s p.length (B8 p) ∧ Kept No w1 wr) (fun _ i _ => l.length - (intOf i).toNat)
  case atStart => exact ⟨0, [], rfl, by omega, Lib.hid (by simp [allL, bl]), by simp, World.ownsRow_nil _ _ _ _, Kept.refl _ _⟩
  case round =>
    obtain ⟨j, p, rfl, hj, HP, hpl, hown, hk1⟩ := hrel
    have hsz := hk.size
    have hsz1 := hk1.size
    by_cases hlt : j < l.length
    · obtain ⟨b, off, rfl, hb, c1, c2⟩ := spans_at (hr.keptNo hk1) j hlt
      have hgj := HG.out j hlt
      have HF := Lib.hid (Il_full l j hlt)
      generalize l[j].1 = lo at *
      generalize l[j].2 = hi9 at *
      have hne : b ≠ wr.heap.size := by omega
      go_wp2
      have hB := Blk.new wr 30 #[.int .u8 lo, .int .u8 hi9]
      have hown0 := hown.alloc (.cells #[.int .u8 lo, .int .u8 hi9] 30)
      have hk0 := hk1.alloc (.cells #[.int .u8 lo, .int .u8 hi9] 30)
      generalize wr.alloc (.cells #[.int .u8 lo, .int .u8 hi9] 30) = wb at *
      generalize wr.heap.size = g at *
      clear c1 c2 hown hk1 hb hne
      go_loopw [5, 8] (fun s c wi => ∃ (m : Nat) (q : List UInt8), c = .int .i64 ((lo + m : Nat) : Int) ∧ m ≤ hi9 + 1 - lo ∧ Hid (q = Il l j lo m) ∧ q.length ≤ 163 * j + m ∧ wi.ownsRow w1.heap.size 5 1 s q.length (B8 q) ∧ Blk wi g 30 #[.int .u8 lo, .int .u8 hi9] ∧ Kept No w1 wi) (fun _ c _ => hi9 + 1 - (intOf c).toNat)
      case atStart => exact ⟨0, p, rfl, by omega, Lib.hid (by rw [Il_zero]; exact HP.out), by omega, hown0, hB, hk0⟩
      case round =>
        obtain ⟨m, q, rfl, hm, HQ, hql, hown, hB, hki⟩ := hrel
        have hszi := hki.size
        have cB := hB.cell 1
        simp at cB
        by_cases hin : lo + m ≤ hi9
        · have hinI : (lo : Int) + m ≤ hi9 := by omega
          have HI := Lib.hid (Il_succ l j lo m)
          go_wp2_with (at_builtin; refine wpList_append_row _ rfl _ _ _ rfl w1.heap.size 5 i0 _ 1 Try.underlying24 hi hz0 hz1 hz2 rfl _ _ _ rfl (hown.alloc _) (some ⟨wr.heap.size, 0, none⟩) 1 1 (B8 (bl [lo + m])) rfl ?c1 ?c2 (by simp) (B8_one _) ?c3 ?c4 ?c5 ?_; rotate_right; intro v2 w2 hown2 hg2 hv2)
          case c1 => rw [bl_one (lo + m) (by omega)]; rfl
          case c2 => rw [bl_one (lo + m) (by omega)]; exact .of_cells (new_cells wr _ _ _ rfl)
          case c3 => unfold maxLen; omega
          case c4 => omega
          case c5 => simp; omega
          go_roundw
          case rel => exact ⟨m + 1, q ++ bl [lo + m], by go_num, by omega, Lib.hid (by rw [HI.out, HQ.out]), by simp [bl]; omega, by simpa [B8_append, bl] using hown2, (hB.alloc _).grown hg2 (own_far hown hB (by decide)), (hki.alloc _).grown hg2 (own_no hown)⟩
          case measure => simp [intOf]; omega
        · have hme : m = hi9 + 1 - lo := by omega
          have hinI : (hi9 : Int) < lo + m := by omega
          go_wp2
          go_roundw
          case rel => exact ⟨j + 1, q, by go_num, by omega, Lib.hid (by rw [HQ.out, hme, HF.out]), by omega, hown, hki⟩
          case measure => simp [intOf]; omega
    · have HF := Lib.hid (List.take_of_length_le (l := l) (i := j) (by omega))
      go_wp2
      go_ret
      exact gives_of (own_base hown hk.size) (by rw [HP.out, HF.out]) (by rw [HP.out, HF.out]) (hk.trans hk1)

end Go.Proofs.Ytcacpjdmlcclkaa
