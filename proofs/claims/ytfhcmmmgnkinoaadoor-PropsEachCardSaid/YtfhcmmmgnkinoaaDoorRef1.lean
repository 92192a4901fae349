/-
  Contracts of the document's own Reader (pouchref01).
-/
import Derived.Test.YtfhcmmmgnkinoaaDoorRvar
import Derived.Deep.QuietTactic
import Derived.BigQuiet
namespace Go.Proofs.YtfhcmmmgnkinoaaDoor
open Go.RowKit
set_option linter.unusedVariables false
set_option linter.unusedSimpArgs false
set_option maxRecDepth 100000

/-- The document's Reader in block r: its bytes, where it is, what was wrong; l: what is left. -/
def RefR (w : World) (r : Nat) (B : ByteArray) (l : List UInt8) (err : Int) : Prop :=
  ∃ at_ : Nat, Blk w r 45 #[.string B, .int .i64 at_, .int .i64 err] ∧ at_ ≤ B.size ∧ B.size ≤ 140737000000000 ∧ (err = 0 → l = B.data.toList.drop at_) ∧ (err ≠ 0 → l = [])
theorem RefR.lt {w : World} {r : Nat} {B : ByteArray} {l : List UInt8} {err : Int} (h : RefR w r B l err) : r < w.heap.size := by obtain ⟨a, hb, _⟩ := h; exact hb.lt
theorem RefR.kept {w w' : World} {S : Nat → Prop} {r : Nat} {B : ByteArray} {l : List UInt8} {err : Int} (h : RefR w r B l err) (hk : Kept S w w') (hr : ¬ S r) : RefR w' r B l err := by
  obtain ⟨a, hb, h2⟩ := h
  exact ⟨a, hb.kept hk hr, h2⟩
theorem RefR.noByte {w : World} {r : Nat} {B : ByteArray} {l : List UInt8} {err : Int} (h : RefR w r B l err) : NoByte w r := by
  obtain ⟨a, hb, _⟩ := h
  exact NoByte.three hb (by simp) (by simp) (by simp)
structure RAfter (w w' : World) (r : Nat) (B : ByteArray) (l : List UInt8) (err : Int) : Prop where
  rdr : RefR w' r B l err
  kept : Kept (One r) w w'

theorem size_list (B : ByteArray) : B.data.toList.length = B.size := by rw [Array.length_toList]; rfl

theorem extract_list (B : ByteArray) (a n : Nat) : B.extract a (a + n) = ⟨((B.data.toList.drop a).take n).toArray⟩ := by
  rw [Lib.extract_eq, show a + n - a = n from by omega]

theorem rtake_bad (w : World) (r : Nat) (B : ByteArray) (l : List UInt8) (err n : Int) (h : RefR w r B l err) (he : err ≠ 0) :
    Calls Tryd.prog 94 #[.pointer (some ⟨r, 0, none⟩), .int .i64 n] w fun e w' => e = .returned (.tuple #[.string ⟨#[]⟩, .bool false]) ∧ w = w' := by
  obtain ⟨at_, hb, h1, h2, h3, h4⟩ := h
  have c2 := hb.cell 2
  simp at c2
  have hne : (err != 0) = true := by simpa using he
  go_enter Tryd.func94, Tryd.ntmps94
  go_wp2
  go_ret2
  exact ⟨rfl, rfl⟩

theorem rtake_short (w : World) (r : Nat) (B : ByteArray) (l : List UInt8) (n : Int) (h : RefR w r B l 0) (hn : n < 0 ∨ (l.length : Int) < n) :
    Calls Tryd.prog 94 #[.pointer (some ⟨r, 0, none⟩), .int .i64 n] w fun e w' => e = .returned (.tuple #[.string ⟨#[]⟩, .bool false]) ∧ RAfter w w' r B [] 2 := by
  obtain ⟨at_, hb, h1, h2, h3, h4⟩ := h
  have c0 := hb.cell 0
  have c1 := hb.cell 1
  have c2 := hb.cell 2
  have f2 := hb.frozen 2
  simp at c0 c1 c2
  have hl := h3 rfl
  subst hl
  simp at hn
  clear h3 h4
  by_cases hn0 : n < 0
  · have hd : decide (n < 0) = true := by simpa using hn0
    go_enter Tryd.func94, Tryd.ntmps94
    go_wp2
    go_quiet (fail)
    go_wp2
    go_ret2
    exact ⟨rfl, ⟨at_, by simpa using (hb.drewN nq).set_ 2 (.int .i64 2), h1, h2, by simp, by simp⟩, ((Kept.refl (One r) w).drewN nq).setCell (p := ⟨r, 2, none⟩) (.inr rfl) _⟩
  · have hd : decide (n < 0) = false := by simpa using hn0
    have hx : (B.size : Int) - at_ < n := by omega
    go_enter Tryd.func94, Tryd.ntmps94
    go_wp2
    go_quiet (fail)
    go_wp2
    go_ret2
    exact ⟨rfl, ⟨at_, by simpa using (hb.drewN nq).set_ 2 (.int .i64 2), h1, h2, by simp, by simp⟩, ((Kept.refl (One r) w).drewN nq).setCell (p := ⟨r, 2, none⟩) (.inr rfl) _⟩

theorem rtake_ok (w : World) (r : Nat) (B : ByteArray) (l : List UInt8) (n : Int) (h : RefR w r B l 0) (hn : 0 ≤ n) (hl : n ≤ l.length) :
    Calls Tryd.prog 94 #[.pointer (some ⟨r, 0, none⟩), .int .i64 n] w fun e w' => e = .returned (.tuple #[.string ⟨(l.take n.toNat).toArray⟩, .bool true]) ∧ RAfter w w' r B (l.drop n.toNat) 0 := by
  obtain ⟨at_, hb, h1, h2, h3, h4⟩ := h
  have c0 := hb.cell 0
  have c1 := hb.cell 1
  have c2 := hb.cell 2
  have f1 := hb.frozen 1
  simp at c0 c1 c2
  have hl' := h3 rfl
  subst hl'
  simp at hl
  clear h3 h4
  obtain ⟨n, rfl⟩ := Int.eq_ofNat_of_zero_le hn
  rw [Int.toNat_natCast]
  have hd : decide ((n : Int) < 0) = false := by simp
  have hx : (n : Int) ≤ (B.size : Int) - at_ := by omega
  have hx2 : at_ + n ≤ B.size := by omega
  go_enter Tryd.func94, Tryd.ntmps94
  go_wp2
  go_quiet (fail)
  go_wp2
  go_quiet (fail)
  go_wp2
  go_ret2
  rw [extract_list]
  refine ⟨rfl, ⟨at_ + n, ?_, by omega, h2, by simp [List.drop_drop], by simp⟩, ?_⟩
  · exact hb.set2 _ _ _ (by simp)
  · exact ((Kept.refl (One r) w).drewN _).setCell (p := ⟨r, 1, none⟩) (.inr rfl) _

def okT (n : Int) (l : List UInt8) (err : Int) : Bool := decide (err = 0 ∧ 0 ≤ n ∧ n ≤ l.length)
theorem rtake_any (w : World) (r : Nat) (B : ByteArray) (l : List UInt8) (err n : Int) (h : RefR w r B l err) :
    Calls Tryd.prog 94 #[.pointer (some ⟨r, 0, none⟩), .int .i64 n] w fun e w' =>
      e = .returned (.tuple #[.string ⟨(taken n l err).toArray⟩, .bool (okT n l err)]) ∧ RAfter w w' r B (leftL n l err) (leftE n l err) := by
  by_cases he : err = 0
  · subst he
    by_cases hn : 0 ≤ n ∧ n ≤ l.length
    · have e1 : taken n l 0 = l.take n.toNat := by simp [taken, hn]
      have e2 : leftL n l 0 = l.drop n.toNat := by simp [leftL, hn]
      have e3 : leftE n l 0 = 0 := by simp [leftE, hn]
      have e4 : okT n l 0 = true := by simp [okT, hn]
      rw [e1, e2, e3, e4]
      exact rtake_ok w r B l n h hn.1 hn.2
    · have e1 : taken n l 0 = [] := by simp [taken, hn]
      have e2 : leftL n l 0 = [] := by simp [leftL, hn]
      have e3 : leftE n l 0 = 2 := by simp [leftE, hn]
      have e4 : okT n l 0 = false := by unfold okT; exact decide_eq_false (by rintro ⟨_, h⟩; exact hn h)
      rw [e1, e2, e3, e4]
      exact rtake_short w r B l n h (by omega)
  · have e1 : taken n l err = [] := by simp [taken, he]
    have e2 : leftL n l err = l := by simp [leftL, he]
    have e3 : leftE n l err = err := by simp [leftE, he]
    have e4 : okT n l err = false := by simp [okT, he]
    rw [e1, e2, e3, e4]
    refine (rtake_bad w r B l err n h he).mono fun e w' ⟨h1, h2⟩ => ?_
    subst h2
    exact ⟨h1, h, Kept.refl _ _⟩

theorem rleft_any (w : World) (r : Nat) (B : ByteArray) (l : List UInt8) (err : Int) (h : RefR w r B l err) :
    Calls Tryd.prog 95 #[.pointer (some ⟨r, 0, none⟩)] w fun e w' => e = .returned (.int .i64 l.length) ∧ RAfter w w' r B l err := by
  have h' := h
  obtain ⟨at_, hb, h1, h2, h3, h4⟩ := h
  have c0 := hb.cell 0
  have c1 := hb.cell 1
  have c2 := hb.cell 2
  simp at c0 c1 c2
  by_cases he : err = 0
  · subst he
    have hl := h3 rfl
    subst hl
    clear h3 h4
    go_enter Tryd.func95, Tryd.ntmps95
    go_wp2
    go_quiet (fail)
    go_wp2
    go_ret
    exact ⟨by simp; omega, h'.kept ((Kept.refl No w).drewN nq) (fun f => f), (Kept.refl _ w).drewN nq⟩
  · have hl := h4 he
    subst hl
    clear h3 h4
    have hne : (err != 0) = true := by simpa using he
    go_enter Tryd.func95, Tryd.ntmps95
    go_wp2
    go_ret
    exact ⟨rfl, h', Kept.refl _ _⟩

set_option maxRecDepth 100000 in
set_option maxHeartbeats 400000 in
theorem rnum_any (w : World) (r : Nat) (B : ByteArray) (l : List UInt8) (err n : Int) (h : RefR w r B l err) (h0 : 0 ≤ n) (h4 : n ≤ 4) :
    Calls Tryd.prog 96 #[.pointer (some ⟨r, 0, none⟩), .int .i64 n] w fun e w' =>
      e = .returned (.int .u64 (num (taken n l err))) ∧ RAfter w w' r B (leftL n l err) (leftE n l err) := by
  have ht := rtake_any w r B l err n h
  have hlen := taken_le n l err
  have hno : okT n l err = false → taken n l err = [] := by
    intro hh
    unfold okT at hh
    unfold taken
    rw [if_neg (of_decide_eq_false hh)]
  generalize taken n l err = t at *
  generalize leftL n l err = l' at *
  generalize leftE n l err = err' at *
  generalize okT n l err = ok at *
  have HT := Lib.hid ht
  have HN := Lib.hid hno
  have hb : t.length ≤ 4 := by omega
  clear ht hlen h hno
  cases ok
  · have e := HN.out rfl
    subst e
    clear HN
    go_enter Tryd.func96, Tryd.ntmps96
    go_wp2_with (go_at_call 94; refine HT.out.mono ?_; rintro e w1 ⟨rfl, ha⟩)
    go_ret
    exact ⟨rfl, ha⟩
  · clear HN
    obtain ⟨S, hS⟩ : ∃ S : ByteArray, S.data.toList = t := ⟨⟨t.toArray⟩, by simp⟩
    have hS2 : (⟨t.toArray⟩ : ByteArray) = S := by rw [← hS]
    rw [hS2] at HT
    rw [← hS] at hb ⊢
    rw [size_list] at hb
    clear hS2 hS
    go_enter Tryd.func96, Tryd.ntmps96
    go_wp2_with (go_at_call 94; refine HT.out.mono ?_; rintro e w1 ⟨rfl, ha⟩)
    go_loop [7, 8] (fun n i => ∃ k : Nat, k ≤ S.size ∧ i = .int .i64 k ∧ n = .int .u64 (num (S.data.toList.take k))) (fun _ i => S.size - (intOf i).toNat)
    case atStart => exact ⟨0, Nat.zero_le _, rfl, rfl⟩
    case round =>
      obtain ⟨k, hk, rfl, rfl⟩ := hrel
      by_cases hlt : k < S.size
      · have hs := num_take_succ S.data.toList k (by rw [size_list]; exact hlt)
        have hn := num_lt (S.data.toList.take k)
        have hp : 256 ^ (S.data.toList.take k).length ≤ 256 ^ 3 := Nat.pow_le_pow_right (by decide) (by simp; omega)
        have hq : num (S.data.toList.take k) < 16777216 := by omega
        have hu := byte_lt S[k]
        have hs2 : num (S.data.toList.take (k + 1)) = num (S.data.toList.take k) * 256 + S[k].toNat := hs
        have HS := Lib.hid hs2
        clear hs hs2 hn hp
        generalize num (S.data.toList.take k) = q at *
        go_wp2
        go_round
        case rel => exact ⟨k + 1, by omega, by go_num, by rw [HS.out]; go_num⟩
        case measure => simp [intOf]; omega
      · go_wp2
        go_ret
        refine ⟨?_, ha⟩
        have e : S.data.toList.take k = S.data.toList := List.take_of_length_le (by rw [size_list]; omega)
        rw [e]
        rfl

end Go.Proofs.YtfhcmmmgnkinoaaDoor
