/-
  strings.ContainsAny and topic.Wild: whatever the bytes, is a wildcard among them.
-/
import Derived.Test.YtlgbljohhnhhkaaDoorWildR
namespace Go.Proofs.YtlgbljohhnhhkaaDoor
open Go.RowKit
set_option linter.unusedVariables false
set_option linter.unusedSimpArgs false

theorem indexRune_any (r : Nat) (w : World) (h1 : 128 ≤ r) (h2 : Lib.validRune r = true) : Calls Tryd.prog 42 #[.string ⟨#[43, 35]⟩, .int .i32 r] w fun e w' => e = .returned (.int .i64 (-1)) ∧ Kept No w w' := by
  by_cases h : r = 65533
  · subst h; exact indexRune_err w
  · exact indexRune_high r w h1 h2 h
theorem noAny_skip {s : ByteArray} {i n : Nat} {c : List UInt8} (h : Lib.NoAny s.data.toList c i) (hc : ∀ b ∈ c, b.toNat < 128) (hh : ∀ j, i ≤ j → j < i + n → ∀ b, s.data.toList[j]? = some b → 128 ≤ b.toNat) : Lib.NoAny s.data.toList c (i + n) := by
  intro j x hj hx
  by_cases hji : j < i
  · exact h j x hji hx
  · have h8 := hh j (by omega) hj x hx
    have : x ∉ c := fun hm => by have := hc x hm; omega
    simpa using this
theorem kept_iterAt {w w' : World} (h : Kept No w w') (s : ByteArray) (p : Nat) : Kept No w (w'.iterAt w.heap.size s p) := by
  refine ⟨h.os, h.tape, h.output, by simpa [World.iterAt] using h.size, fun k hk hn => ?_⟩
  rw [← h.block k hk hn]
  simp only [World.iterAt]
  rw [Array.getElem?_setIfInBounds_ne (by omega)]

set_option maxHeartbeats 4000000 in
set_option maxRecDepth 1000000 in
theorem indexAny_short (s : ByteArray) (w : World) (h8 : s.size ≤ 8) :
    Calls Tryd.prog 39 #[.string s, .string ⟨#[43, 35]⟩] w fun e w' => e = .returned (.int .i64 (Lib.indexAny s.data.toList [43, 35])) ∧ Kept No w w' := by
  have h8z : decide ((8 : Int) < (s.size : Int)) = false := decide_eq_false (by omega)
  go_enter Tryd.func39, Tryd.ntmps39
  go_wp2_with (go_at_call 43; refine (Tryd.strings_shouldUseASCIISet _ _).mono ?_; rintro e w' ⟨rfl, hw⟩; rw [hw, h8z])
  go_loopg [9, 10] s.size (fun g _ _ wx => ∃ i : Nat, i + g = s.size ∧ wx.heap[w.heap.size]? = some (.stringIter s i) ∧ Kept No w wx ∧ Hid (Lib.NoAny s.data.toList [43, 35] i))
  case atStart => exact ⟨0, by omega, World.iter_heap _ _ _, (Kept.refl No w).alloc _, Lib.hid (Lib.NoAny.zero _ _)⟩
  case round =>
    obtain ⟨i, hig, hit, hk, HN⟩ := hrel
    cases gk with
    | zero =>
      obtain rfl : i = s.size := by omega
      have hnx := fun ty => Lib.run_next_end_at (P := Tryd.prog) wr w.heap.size s s.size ty hit (by omega)
      clear hit
      go_wp2
      go_ret
      exact ⟨by rw [Lib.indexAny_none (by rw [← Lib.size_eq]; exact HN.out)]; rfl, hk⟩
    | succ g =>
      have hi : i < s.size := by omega
      have hb0 : s.data.toList[i]? = some (s[i]'hi) := Lib.data_getElem? s i hi
      by_cases h128 : (s[i]'hi).toNat < 128
      · have hnx := fun ty => Lib.run_next_ascii_at (P := Tryd.prog) wr w.heap.size s i ty hit hi h128
        have hit2 := Lib.iterAt_heap wr w.heap.size s i (i + 1) hit
        have hk2 := kept_iterAt hk s (i + 1)
        generalize wr.iterAt w.heap.size s (i + 1) = wn at *
        have Hx := Lib.hid hb0
        generalize s[i]'hi = x at *
        have hcon := Lib.contains_iff_indexByte [43, 35] x
        have hback : ((x.toNat : Int)).toNat.toUInt8 = x := by simp
        have HI := Lib.hid hit2
        clear hit hit2 hb0
        cases hin : ([43, 35] : List UInt8).contains x
        · rw [hin] at hcon
          have hlt : Lib.indexByte [43, 35] x < 0 := by have := of_decide_eq_false hcon.symm; omega
          have HH := Lib.hid hin
          clear hcon hin
          go_wp2_with (go_at_call 42; refine (Tryd.strings_IndexRune_ascii _ _ _ (by omega) (by omega)).mono ?_; rintro e w' ⟨rfl, hw⟩; rw [hw, hback])
          go_roundg g
          case measure => omega
          case rel => exact ⟨i + 1, by omega, HI.out, hk2, Lib.hid (HN.out.succ Hx.out HH.out)⟩
        · rw [hin] at hcon
          have hge : (0 : Int) ≤ Lib.indexByte [43, 35] x := of_decide_eq_true hcon.symm
          have HH := Lib.hid hin
          clear hcon hin
          go_wp2_with (go_at_call 42; refine (Tryd.strings_IndexRune_ascii _ _ _ (by omega) (by omega)).mono ?_; rintro e w' ⟨rfl, hw⟩; rw [hw, hback])
          go_ret
          exact ⟨by rw [Lib.indexAny_hit HN.out Hx.out HH.out]; rfl, hk2⟩
      · have hg : (s.get! i).toNat = (s[i]'hi).toNat := get_bang s i _ hb0
        obtain ⟨q1, q2, q3, q4, q5⟩ := high_at s i hi (by omega)
        have hnx := fun ty => Lib.run_next_any_at (P := Tryd.prog) wr w.heap.size s i ty hit hi
        have hit2 := Lib.iterAt_heap wr w.heap.size s i (i + (Utf8.decode s i).2) hit
        have hk2 := kept_iterAt hk s (i + (Utf8.decode s i).2)
        generalize wr.iterAt w.heap.size s (i + (Utf8.decode s i).2) = wn at *
        generalize (Utf8.decode s i).2 = n at *
        generalize (Utf8.decode s i).1 = r at *
        have HI := Lib.hid hit2
        have HQ := Lib.hid q5
        have HV := Lib.hid q2
        clear hit hit2 hb0 hg q5 h128 q2
        go_wp2_with (go_at_call 42; refine (indexRune_any r _ q1 HV.out).mono ?_; rintro e w5 ⟨rfl, hk5⟩)
        go_roundg (s.size - (i + n))
        case measure => omega
        case rel => exact ⟨i + n, by omega, (hk5.block _ (Array.getElem?_eq_some_iff.1 HI.out).1 (fun f => f)).trans HI.out, hk2.trans hk5, Lib.hid (noAny_skip HN.out (by decide) HQ.out)⟩

theorem w2_ascii : ∀ (j : Nat) b, (⟨#[43, 35]⟩ : ByteArray).data.toList[j]? = some b → b.toNat < 128 := by
  intro j b hb
  have h1 : b ∈ ([43, 35] : List UInt8) := List.mem_of_getElem? hb
  have h2 : b = 43 ∨ b = 35 := by simpa using h1
  rcases h2 with rfl | rfl <;> decide
theorem zero_set : (Tryd.prog.info? (Tryd.lays153_ren.t 116)).map (fun i => (i.zero, i.size)) = some (some (.agg (Array.replicate 256 (.bool false))), 256) := by kernel_rfl
theorem indexAny_any (s : ByteArray) (w : World) (hs : s.size < 4294967281) :
    Calls Tryd.prog 39 #[.string s, .string ⟨#[43, 35]⟩] w fun e w' => e = .returned (.int .i64 (Lib.indexAny s.data.toList [43, 35])) ∧ Kept No w w' := by
  by_cases h8 : s.size ≤ 8
  · exact indexAny_short s w h8
  · refine (Tryd.strings_IndexAny_long (Go.zero_of_info zero_set).1 s ⟨#[43, 35]⟩ w (by decide) (by omega) hs (by decide) w2_ascii).mono ?_
    rintro e w1 ⟨rfl, rfl⟩
    exact ⟨rfl, ((Kept.refl No w).alloc _).alloc _⟩
theorem containsAny_any (s : ByteArray) (w : World) (hs : s.size < 4294967281) :
    Calls Tryd.prog 32 #[.string s, .string ⟨#[43, 35]⟩] w fun e w' => e = .returned (.bool (Lib.containsAny s.data.toList [43, 35])) ∧ Kept No w w' := by
  have c := indexAny_any s w hs
  unfold Lib.containsAny
  generalize Lib.indexAny s.data.toList [43, 35] = I at *
  have HC := Lib.hid c
  clear c
  go_enter Tryd.func32, Tryd.ntmps32
  go_wp2_with (go_at_call 39; refine HC.out.mono ?_; rintro e w1 ⟨rfl, hk⟩)
  go_ret
  exact ⟨rfl, hk⟩
/-- Has a text a wildcard? -/
def wildL (l : List UInt8) : Bool := l.contains 43 || l.contains 35
theorem containsAny_wild (l : List UInt8) : Lib.containsAny l [43, 35] = wildL l := by
  unfold Lib.containsAny wildL
  induction l with
  | nil => rfl
  | cons b t ih =>
    have hge := Lib.indexAny_ge [43, 35] t
    unfold Lib.indexAny
    by_cases hb : ([43, 35] : List UInt8).contains b = true
    · rw [if_pos hb]
      have : b = 43 ∨ b = 35 := by simpa using hb
      rcases this with rfl | rfl <;> simp
    · rw [if_neg hb]
      have hn : ¬ (b = 43 ∨ b = 35) := by simpa using hb
      have h1 : ((43 : UInt8) == b) = false := by simp; intro e; exact hn (.inl e.symm)
      have h2 : ((35 : UInt8) == b) = false := by simp; intro e; exact hn (.inr e.symm)
      rw [List.contains_cons, List.contains_cons, h1, h2, Bool.false_or, Bool.false_or, ← ih]
      by_cases hm : Lib.indexAny t [43, 35] = -1
      · simp [hm]
      · rw [if_neg (by simpa using hm)]
        by_cases h0 : 0 ≤ Lib.indexAny t [43, 35]
        · rw [decide_eq_true h0, decide_eq_true (by omega)]
        · omega
theorem wild_any (s : ByteArray) (w : World) (hs : s.size < 4294967281) :
    Calls Tryd.prog 22 #[.string s] w fun e w' => e = .returned (.bool (wildL s.data.toList)) ∧ Kept No w w' := by
  have c := containsAny_any s w hs
  rw [containsAny_wild] at c
  generalize wildL s.data.toList = B at *
  have HC := Lib.hid c
  clear c
  go_enter Tryd.func22, Tryd.ntmps22
  go_wp2_with (go_at_call 32; refine HC.out.mono ?_; rintro e w1 ⟨rfl, hk⟩)
  go_ret
  exact ⟨rfl, hk⟩

end Go.Proofs.YtlgbljohhnhhkaaDoor
