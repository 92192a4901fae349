/-
  Contracts of package wire: what a Reader takes.
-/
import Derived.Test.YtfhcmmmgnkinoaaDoorRead
namespace Go.Proofs.YtfhcmmmgnkinoaaDoor
open Go.RowKit
set_option linter.unusedVariables false
set_option linter.unusedSimpArgs false
set_option maxRecDepth 100000

/-- What is taken when n bytes are asked for, and the state behind it. -/
def taken (n : Int) (l : List UInt8) (err : Int) : List UInt8 := if err = 0 ∧ 0 ≤ n ∧ n ≤ l.length then l.take n.toNat else []
def leftL (n : Int) (l : List UInt8) (err : Int) : List UInt8 := if err = 0 then (if 0 ≤ n ∧ n ≤ l.length then l.drop n.toNat else []) else l
def leftE (n : Int) (l : List UInt8) (err : Int) : Int := if err = 0 then (if 0 ≤ n ∧ n ≤ l.length then 0 else 2) else err

theorem taken_le (n : Int) (l : List UInt8) (err : Int) : (taken n l err).length ≤ n.toNat := by unfold taken; split <;> simp; omega

/-- What a Reader's call answers besides: its state behind it. -/
structure After (w w' : World) (r : Nat) (l : List UInt8) (err : Int) : Prop where
  rdr : Rdr w' r l err
  kept : Kept (One r) w w'

theorem take_any (w : World) (r : Nat) (l : List UInt8) (err n : Int) (h : Rdr w r l err) :
    Calls Tryd.prog 90 #[.pointer (some ⟨r, 0, none⟩), .int .i64 n] w fun e w' =>
      ∃ a c, e = .returned (.slice a (taken n l err).length c) ∧ Row w' a (B8 (taken n l err)) ∧ (a = none → c = 0) ∧ After w w' r (leftL n l err) (leftE n l err) := by
  by_cases he : err = 0
  · subst he
    by_cases hn : 0 ≤ n ∧ n ≤ l.length
    · have e1 : taken n l 0 = l.take n.toNat := by simp [taken, hn]
      have e2 : leftL n l 0 = l.drop n.toNat := by simp [leftL, hn]
      have e3 : leftE n l 0 = 0 := by simp [leftE, hn]
      rw [e1, e2, e3]
      exact (take_ok w r l n h hn.1 hn.2).mono fun e w' ⟨a, c, h1, h2, h3, h4, h5⟩ => ⟨a, c, h1, h2, h3, h4, h5⟩
    · have e1 : taken n l 0 = [] := by simp [taken, hn]
      have e2 : leftL n l 0 = [] := by simp [leftL, hn]
      have e3 : leftE n l 0 = 2 := by simp [leftE, hn]
      rw [e1, e2, e3]
      exact (take_short w r l n h (by omega)).mono fun e w' ⟨h1, h4, h5⟩ => ⟨none, 0, h1, Row.nil _ _, fun _ => rfl, h4, h5⟩
  · have e1 : taken n l err = [] := by simp [taken, he]
    have e2 : leftL n l err = l := by simp [leftL, he]
    have e3 : leftE n l err = err := by simp [leftE, he]
    rw [e1, e2, e3]
    refine (take_bad w r l err n h he).mono fun e w' ⟨h1, h2⟩ => ?_
    subst h2
    exact ⟨none, 0, h1, Row.nil _ _, fun _ => rfl, h, Kept.refl _ _⟩

/-- A number's value, the highest byte first. -/
def num (l : List UInt8) : Nat := l.foldl (fun n c => n * 256 + c.toNat) 0
theorem num_snoc (l : List UInt8) (c : UInt8) : num (l ++ [c]) = num l * 256 + c.toNat := by simp [num]
theorem num_lt (l : List UInt8) : num l < 256 ^ l.length := by
  have key : ∀ (m : Nat) (l : List UInt8), l.length = m → num l < 256 ^ l.length := by
    intro m
    induction m with
    | zero => intro l h; have : l = [] := List.eq_nil_of_length_eq_zero h; subst this; decide
    | succ m ih =>
      intro l h
      have hne : l ≠ [] := by rintro rfl; simp at h
      have e : l.dropLast ++ [l.getLast hne] = l := List.dropLast_concat_getLast hne
      rw [← e, num_snoc]
      have h1 := ih l.dropLast (by simp [h])
      have h2 := byte_lt (l.getLast hne)
      simp only [List.length_append, List.length_singleton, Nat.pow_succ]
      omega
  exact key _ l rfl
theorem num_take_succ (l : List UInt8) (k : Nat) (h : k < l.length) : num (l.take (k + 1)) = num (l.take k) * 256 + l[k].toNat := by
  rw [List.take_succ_eq_append_getElem h, num_snoc]

set_option maxRecDepth 100000 in
set_option maxHeartbeats 400000 in
theorem wnumber_any (w : World) (r : Nat) (l : List UInt8) (err n : Int) (h : Rdr w r l err) (h0 : 0 ≤ n) (h4 : n ≤ 4) :
    Calls Tryd.prog 53 #[.pointer (some ⟨r, 0, none⟩), .int .i64 n] w fun e w' =>
      e = .returned (.int .u32 (num (taken n l err))) ∧ After w w' r (leftL n l err) (leftE n l err) := by
  have ht := take_any w r l err n h
  have hlen := taken_le n l err
  generalize taken n l err = t at *
  generalize leftL n l err = l' at *
  generalize leftE n l err = err' at *
  have HT := Lib.hid ht
  have hb : t.length ≤ 4 := by omega
  clear ht hlen h
  go_enter Tryd.func53, Tryd.ntmps53
  go_wp2_with (go_at_call 90; refine HT.out.mono ?_; rintro e w1 ⟨a, c, rfl, hr, hc, ha⟩)
  go_loop [5, 12] (fun n i => ∃ k : Nat, k ≤ t.length ∧ i = .int .i64 k ∧ n = .int .u32 (num (t.take k))) (fun _ i => t.length - (intOf i).toNat)
  case atStart => exact ⟨0, Nat.zero_le _, rfl, rfl⟩
  case round =>
    obtain ⟨k, hk, rfl, rfl⟩ := hrel
    by_cases hlt : k < t.length
    · obtain ⟨b, off, rfl, hbl, hcell⟩ := hr.at_ (k := k) (by simpa using hlt)
      have hcc : w1.cell? ⟨b, off + k, none⟩ = some (.int .u8 (t[k].toNat : Int)) := by rw [hcell]; simp [B8]
      have hs := num_take_succ t k hlt
      have hn := num_lt (t.take k)
      have hp : 256 ^ (t.take k).length ≤ 256 ^ 3 := Nat.pow_le_pow_right (by decide) (by simp; omega)
      have hu := byte_lt t[k]
      have hq : num (t.take k) < 16777216 := by omega
      have HS := Lib.hid hs
      clear hs hcell hn hp hr
      generalize num (t.take k) = q at *
      go_wp2
      go_round
      case rel => exact ⟨k + 1, by omega, by go_num, by rw [HS.out]; go_num⟩
      case measure => simp [intOf]; omega
    · go_wp2
      go_ret
      refine ⟨?_, ha⟩
      have e : t.take k = t := List.take_of_length_le (by omega)
      rw [e]
      rfl

theorem num_le (n : Int) (l : List UInt8) (err : Int) (k : Nat) (hk : n.toNat ≤ k) : num (taken n l err) < 256 ^ k := by
  have h1 := num_lt (taken n l err)
  have h2 := taken_le n l err
  have h3 : 256 ^ (taken n l err).length ≤ 256 ^ k := Nat.pow_le_pow_right (by decide) (by omega)
  omega

theorem rbyte_any (w : World) (r : Nat) (l : List UInt8) (err : Int) (h : Rdr w r l err) :
    Calls Tryd.prog 17 #[.pointer (some ⟨r, 0, none⟩)] w fun e w' =>
      e = .returned (.int .u8 (num (taken 1 l err))) ∧ After w w' r (leftL 1 l err) (leftE 1 l err) := by
  have ht := wnumber_any w r l err 1 h (by omega) (by omega)
  have hb := num_le 1 l err 1 (by omega)
  generalize num (taken 1 l err) = q at *
  have HT := Lib.hid ht
  clear ht h
  go_enter Tryd.func17, Tryd.ntmps17
  go_wp2_with (go_at_call 53; refine HT.out.mono ?_; rintro e w1 ⟨rfl, ha⟩)
  go_ret
  exact ⟨rfl, ha⟩
theorem rtwo_any (w : World) (r : Nat) (l : List UInt8) (err : Int) (h : Rdr w r l err) :
    Calls Tryd.prog 115 #[.pointer (some ⟨r, 0, none⟩)] w fun e w' =>
      e = .returned (.int .u16 (num (taken 2 l err))) ∧ After w w' r (leftL 2 l err) (leftE 2 l err) := by
  have ht := wnumber_any w r l err 2 h (by omega) (by omega)
  have hb := num_le 2 l err 2 (by omega)
  generalize num (taken 2 l err) = q at *
  have HT := Lib.hid ht
  clear ht h
  go_enter Tryd.func115, Tryd.ntmps115
  go_wp2_with (go_at_call 53; refine HT.out.mono ?_; rintro e w1 ⟨rfl, ha⟩)
  go_ret
  exact ⟨rfl, ha⟩
theorem rfour_any (w : World) (r : Nat) (l : List UInt8) (err : Int) (h : Rdr w r l err) :
    Calls Tryd.prog 116 #[.pointer (some ⟨r, 0, none⟩)] w fun e w' =>
      e = .returned (.int .u32 (num (taken 4 l err))) ∧ After w w' r (leftL 4 l err) (leftE 4 l err) := by
  have ht := wnumber_any w r l err 4 h (by omega) (by omega)
  generalize num (taken 4 l err) = q at *
  have HT := Lib.hid ht
  clear ht h
  go_enter Tryd.func116, Tryd.ntmps116
  go_wp2_with (go_at_call 53; refine HT.out.mono ?_; rintro e w1 ⟨rfl, ha⟩)
  go_ret
  exact ⟨rfl, ha⟩

def binTaken (l : List UInt8) (err : Int) : List UInt8 := taken (num (taken 2 l err)) (leftL 2 l err) (leftE 2 l err)
def binL (l : List UInt8) (err : Int) : List UInt8 := leftL (num (taken 2 l err)) (leftL 2 l err) (leftE 2 l err)
def binE (l : List UInt8) (err : Int) : Int := leftE (num (taken 2 l err)) (leftL 2 l err) (leftE 2 l err)

theorem rbin_any (w : World) (r : Nat) (l : List UInt8) (err : Int) (h : Rdr w r l err) :
    Calls Tryd.prog 117 #[.pointer (some ⟨r, 0, none⟩)] w fun e w' =>
      e = .returned (.string ⟨(binTaken l err).toArray⟩) ∧ After w w' r (binL l err) (binE l err) := by
  have ht := rtwo_any w r l err h
  have ht2 := fun w1 (hr : Rdr w1 r (leftL 2 l err) (leftE 2 l err)) => take_any w1 r (leftL 2 l err) (leftE 2 l err) (num (taken 2 l err)) hr
  unfold binTaken binL binE
  have hb := num_le 2 l err 2 (by omega)
  generalize num (taken 2 l err) = q at *
  generalize leftL 2 l err = l1 at *
  generalize leftE 2 l err = e1 at *
  generalize taken q l1 e1 = t at *
  generalize leftL q l1 e1 = l2 at *
  generalize leftE q l1 e1 = e2 at *
  have HT := Lib.hid ht
  have HT2 := Lib.hid ht2
  clear ht ht2 h
  go_enter Tryd.func117, Tryd.ntmps117
  go_wp2_with (first
    | (go_at_call 115; refine HT.out.mono ?_; rintro e w1 ⟨rfl, ha⟩)
    | (go_at_call 90; refine (HT2.out _ ha.rdr).mono ?_; rintro e w2 ⟨a, c, rfl, hr, hc, ha2⟩; have hcv := row_str (P := Tryd.prog) 25 9 5 Tryd.underlying25 Tryd.underlying5 Tryd.underlying9 hr c hc))
  go_ret
  exact ⟨rfl, ha2.rdr, ha.kept.trans ha2.kept⟩

theorem rrest_any (w : World) (r : Nat) (l : List UInt8) (err : Int) (h : Rdr w r l err) :
    Calls Tryd.prog 57 #[.pointer (some ⟨r, 0, none⟩)] w fun e w' =>
      e = .returned (.string ⟨l.toArray⟩) ∧ After w w' r [] err := by
  have hl := left_any w r l err h
  have ht := take_any w r l err l.length h
  have hln : l.length ≤ 140737000000000 := by obtain ⟨a, c, _, _, _, _, h4, _⟩ := h; exact h4
  have h5 : err ≠ 0 → l = [] := by obtain ⟨a, c, _, _, _, _, _, h5, _⟩ := h; exact h5
  have e1 : taken l.length l err = l := by
    unfold taken
    by_cases he : err = 0
    · simp [he]
    · simp [h5 he]
  have e2 : leftL l.length l err = [] := by
    unfold leftL
    by_cases he : err = 0
    · simp [he]
    · simp [he, h5 he]
  have e3 : leftE l.length l err = err := by
    unfold leftE
    by_cases he : err = 0
    · simp [he]
    · simp [he]
  rw [e1, e2, e3] at ht
  have HT := Lib.hid ht
  have HL := Lib.hid hl
  clear ht hl h e1 e2 e3 h5
  go_enter Tryd.func57, Tryd.ntmps57
  go_wp2_with (first
    | (go_at_call 22; refine HL.out.mono ?_; rintro e w1 ⟨rfl, rfl⟩)
    | (go_at_call 90; refine HT.out.mono ?_; rintro e w2 ⟨a, c, rfl, hr, hc, ha2⟩; have hcv := row_str (P := Tryd.prog) 25 9 5 Tryd.underlying25 Tryd.underlying5 Tryd.underlying9 hr c hc))
  go_ret
  exact ⟨rfl, ha2⟩

theorem typ_own {w : World} {base n c : Nat} {g : Nat} {xs : List Value} {l : List UInt8} (h : w.ownsRow base 5 1 (.slice (some ⟨g, 0, none⟩) n c) n xs) : Typ w (some ⟨g, 0, none⟩) l := by
  intro b off he _
  injection he with he
  injection he with e1 e2
  subst e1
  rcases h.2 with ⟨hv, _⟩ | ⟨g', cap, cur, hv, _, hg, _⟩
  · cases hv
  · injection hv with e1
    injection e1 with e1
    injection e1 with e1
    subst e1
    exact ⟨cur, (0, 0), hg⟩
/-- 'Read': a Reader of bytes, with memory of its own. -/
theorem read_any (a : Option Addr) (c : Nat) (l : List UInt8) (w : World) (hr : Row w a (B8 l)) (hn : a = none → l.length = 0 ∧ c = 0) (hl : l.length ≤ 140737000000000) :
    Calls Tryd.prog 16 #[.slice a l.length c] w fun e w' => ∃ r, e = .returned (.pointer (some ⟨r, 0, none⟩)) ∧ w.heap.size ≤ r ∧ Rdr w' r l 0 ∧ Kept No w w' := by
  go_enter Tryd.func16, Tryd.ntmps16
  go_wp2_with (go_at_call 52; refine (grown_any a c l 0 _ (by omega) hr hn (by omega)).mono ?_; rintro e w1 ⟨g, rfl, hg, hown1, hk1⟩)
  go_ret
  have hrow : Row w1 (some ⟨g, 0, none⟩) (B8 l) := .of_own hown1
  exact ⟨_, rfl, hk1.size, ⟨some ⟨g, 0, none⟩, l.length, Blk.new _ _ _, by simp, by simp, hrow.keptNo ((Kept.refl No w1).alloc _), hl, by simp, (typ_own hown1).kept ((Kept.refl No w1).alloc _) (fun _ _ _ _ f => f)⟩, hk1.alloc _⟩

theorem sub_any (w : World) (r : Nat) (l : List UInt8) (err n : Int) (h : Rdr w r l err) :
    Calls Tryd.prog 55 #[.pointer (some ⟨r, 0, none⟩), .int .i64 n] w fun e w' =>
      ∃ s, e = .returned (.pointer (some ⟨s, 0, none⟩)) ∧ w.heap.size ≤ s ∧ Rdr w' s (taken n l err) (leftE n l err) ∧ After w w' r (leftL n l err) (leftE n l err) := by
  have ht := take_any w r l err n h
  have hlt : (taken n l err).length ≤ 140737000000000 := by
    obtain ⟨a, c, _, _, _, _, h4, _⟩ := h
    unfold taken
    split
    · simp; omega
    · simp
  have h5 : leftE n l err ≠ 0 → taken n l err = [] := by
    unfold leftE taken
    intro hh
    split at hh
    · split at hh
      · exact absurd rfl hh
      · rw [if_neg (by simp_all)]
    · rw [if_neg (by simp_all)]
  generalize taken n l err = t at *
  generalize leftL n l err = l1 at *
  generalize leftE n l err = e1 at *
  have HT := Lib.hid ht
  clear ht h
  have H5 := Lib.hid h5
  clear h5
  go_enter Tryd.func55, Tryd.ntmps55
  go_wp2_with (first
    | (go_at_call 90; refine HT.out.mono ?_; rintro e w2 ⟨a, c, rfl, hr, hc, ha⟩)
    | (go_at_call 16; refine (read_any a c t _ hr (row_none hr hc) hlt).mono ?_; rintro e w3 ⟨s, rfl, hs, hrd, hk⟩; have hr3 := ha.rdr.keptNo hk; obtain ⟨a1, k1, q10, q11, q12, q13⟩ := hr3.cells; obtain ⟨a2, k2, q20, q21, q22, q23⟩ := hrd.cells))
  go_ret
  have hne : r ≠ s := by have := ha.rdr.lt; omega
  have hsz := ha.kept.size
  exact ⟨s, rfl, by omega, hrd.setErr e1 H5.out, hr3.far hrd hne _ rfl _, ((ha.kept.then hk.any (fun _ _ h => h))).setCell (p := ⟨s, 1, none⟩) (.inl (by show w.heap.size ≤ s; omega)) _⟩

end Go.Proofs.YtfhcmmmgnkinoaaDoor
