/-
  Contracts of the document's Num and Bin (pouchref01), and both sides' calls by one word for what is laid.
-/
import Derived.Test.YtfkddmdoepiikaaVarsWalk
namespace Go.Proofs.Ytfkddmdoepiikaa
open Go.RowKit
set_option linter.unusedVariables false
set_option linter.unusedSimpArgs false

/-- A number's bytes, the highest first. -/
def be : Nat → Nat → List UInt8
  | 0, _ => []
  | k + 1, n => byteOf (((n / 256 ^ k : Nat) : Int) % 256) :: be k n
theorem be_len : ∀ k n, (be k n).length = k
  | 0, _ => rfl
  | k + 1, n => by simp [be, be_len k n]
theorem be_succ (k n m : Nat) (h : m = n / 256 ^ k) : be (k + 1) n = byteOf ((m : Int) % 256) :: be k n := by subst h; rfl
theorem div_succ (n j m : Nat) (h : m = n / 256 ^ j) : m / 256 = n / 256 ^ (j + 1) := by
  subst h; rw [Nat.pow_succ, ← Nat.div_div_eq_div_mul]
theorem u64_quo (m : Nat) : Value.int .u64 ((m : Int) / 256) = .int .u64 ((m / 256 : Nat) : Int) := by
  congr 1

set_option maxRecDepth 100000 in
set_option maxHeartbeats 1000000 in
theorem refnum_any (a : Option Addr) (c : Nat) (l : List UInt8) (n : Nat) (sz : Int) (s : Nat) (hsz : sz = (s : Int) + 1) (w : World) (h1 : n ≤ 4294967295) (hs : s ≤ 3) (hr : Row w a (B8 l)) (hn : a = none → c = 0) (hl : l.length ≤ 140737000000000) :
    Calls Try.prog 28 #[.slice a l.length c, .int .u64 n, .int .i64 sz] w (Lays w (l ++ be (s + 1) n)) := by
  obtain ⟨i0, hi, hz0, hz1, hz2⟩ := info_parts info_u8
  have hm : maxLen = 9223372036854775807 := rfl
  subst hsz
  go_enter Try.func28, Try.ntmps28
  go_wp2_with (at_builtin; refine wpList_append_row _ rfl _ _ _ rfl w.heap.size 5 i0 _ 1 Try.underlying22 hi hz0 hz1 hz2 rfl _ _ _ rfl (own_empty w _ _ (Nat.le_refl _)) a l.length c (B8 l) rfl (by simp) ?c0 hn (B8_one _) ?c1 ?c2 ?c3 ?_; rotate_right; intro v1 w1 hown1 hg1 hv1)
  case c0 => exact hr.keptNo ((Kept.refl No w).alloc _)
  case c1 => omega
  case c2 => omega
  case c3 => simp
  have hk1 : Kept No w w1 := ((Kept.refl No w).alloc _).grown hg1 (own_no (own_empty w _ 5 (Nat.le_refl _)))
  clear hg1 hv1
  go_loopw [7, 8] (fun v i wr => ∃ (k : Nat) (p : List UInt8), ((k = 0 ∧ i = .int .i64 (-1)) ∨ ∃ k' : Nat, k = k' + 1 ∧ i = .int .i64 k') ∧ k ≤ s + 1 ∧ p ++ be k n = be (s + 1) n ∧ p.length + k = s + 1 ∧ wr.ownsRow w.heap.size 5 1 v (l ++ p).length (B8 (l ++ p)) ∧ Kept No w wr) (fun _ i _ => (intOf i + 1).toNat)
  case atStart => exact ⟨s + 1, [], .inr ⟨s, rfl, by go_num⟩, by omega, rfl, by simp, by simpa using hown1, hk1⟩
  case round =>
    obtain ⟨k, p, hik, hks, hp, hpl, hown, hk⟩ := hrel
    have HP := Lib.hid hp
    have HPL := Lib.hid hpl
    have hpl3 : p.length ≤ 4 := by omega
    clear hp hown1 hk1 hpl
    have hsz := hk.size
    rcases hik with ⟨rfl, rfl⟩ | ⟨k', rfl, rfl⟩
    · go_wp2
      go_ret
      have e1 : p = be (s + 1) n := by rw [← HP.out]; simp [be]
      subst e1
      exact lays_of hown rfl rfl (by simp [be_len]; omega) hk
    · go_wp2
      go_loop [9, 10] (fun x j => ∃ (jn m : Nat), jn ≤ k' ∧ j = .int .i64 jn ∧ x = .int .u64 m ∧ Hid (m = n / 256 ^ jn) ∧ m ≤ 4294967295) (fun _ j => k' - (intOf j).toNat)
      case atStart => exact ⟨0, n, by omega, rfl, rfl, Lib.hid (by simp), h1⟩
      case round =>
        obtain ⟨jn, m, hj, rfl, rfl, HM, hm9⟩ := hrel
        by_cases hlt : jn < k'
        · have hltI : (jn : Int) < k' := by omega
          go_wp2
          go_round
          case rel => exact ⟨jn + 1, m / 256, by omega, by go_num, u64_quo m, Lib.hid (div_succ n jn m HM.out), by omega⟩
          case measure => simp [intOf]; omega
        · have hjk : jn = k' := by omega
          have HJ := Lib.hid hjk
          have hge : (k' : Int) ≤ jn := by omega
          clear hjk
          go_wp2_with (at_builtin; refine wpList_append_own _ rfl _ _ _ rfl w.heap.size 5 i0 _ 1 1 Try.underlying22 hi hz0 hz1 hz2 rfl (by decide) _ _ _ rfl (hown.alloc _) ⟨wr.heap.size, 0, none⟩ 1 1 (B8 [byteOf ((m : Int) % 256)]) rfl rfl ?e1 (B8_one _) ?e2 ?e3 ?e4 ?_; rotate_right; intro v2 w2 hown2 hg2 _)
          case e1 => first | exact new_at (by rw [B8_cons (by omega) (by omega)]; rfl) | (intro j u hu; rw [B8_cons (by omega) (by omega)] at hu; exact hu)
          case e2 => first | omega | (simp; omega) | (simp; done)
          case e3 => first | omega | (simp; omega) | (simp; done)
          case e4 => first | omega | (simp; omega) | (simp; done)
          have hnew : (p ++ [byteOf ((m : Int) % 256)]) ++ be k' n = be (s + 1) n := by
            rw [← HP.out, be_succ k' n m (by rw [HM.out, HJ.out])]; simp
          go_roundw
          case rel => exact ⟨k', p ++ [byteOf ((m : Int) % 256)], by
              rcases Nat.eq_zero_or_pos k' with h0 | h0
              · exact .inl ⟨h0, by subst h0; rfl⟩
              · exact .inr ⟨k' - 1, by omega, by go_num⟩, by omega, hnew, by have := HPL.out; simp only [List.length_append, List.length_cons, List.length_nil]; omega, by simpa [B8_append, List.append_assoc, Nat.add_assoc] using hown2, (hk.alloc _).grown hg2 (own_no hown)⟩
          case measure => simp [intOf]

/-! What both sides lay, by one word each. -/
def addByte (l : List UInt8) (x : Nat) : List UInt8 := l ++ [byteOf ((x : Int) % 256)]
def addTwo (l : List UInt8) (x : Nat) : List UInt8 := l ++ [byteOf ((x : Int) % 65536 / 256), byteOf ((x : Int) % 65536 % 256)]
def addFour (l : List UInt8) (x : Nat) : List UInt8 := l ++ [byteOf ((x : Int) / 16777216), byteOf ((x : Int) / 65536 % 256), byteOf ((x : Int) / 256 % 256), byteOf ((x : Int) % 256)]
def addVar (l : List UInt8) (x : Nat) : List UInt8 := l ++ varL x
def addBin (l : List UInt8) (s : ByteArray) : List UInt8 := l ++ (byteOf ((s.size : Int) / 256) :: byteOf ((s.size : Int) % 256) :: s.data.toList)
theorem byteX (a : Option Addr) (c : Nat) (l : List UInt8) (x : Nat) (w : World) (hr : Row w a (B8 l)) (hn : a = none → l.length = 0 ∧ c = 0) (hl : l.length ≤ 100000) :
    Calls Try.prog 27 #[.slice a l.length c, .int .u8 ((x : Int) % 256)] w (Lays w (addByte l x)) := byte_any a c l _ w (by omega) (by omega) hr hn (by omega)
theorem twoX (a : Option Addr) (c : Nat) (l : List UInt8) (x : Nat) (w : World) (hr : Row w a (B8 l)) (hn : a = none → l.length = 0 ∧ c = 0) (hl : l.length ≤ 100000) :
    Calls Try.prog 26 #[.slice a l.length c, .int .u16 ((x : Int) % 65536)] w (Lays w (addTwo l x)) := two_any a c l _ w (by omega) (by omega) hr hn (by omega)
theorem fourX (a : Option Addr) (c : Nat) (l : List UInt8) (x : Nat) (w : World) (hx : x ≤ 4294967295) (hr : Row w a (B8 l)) (hn : a = none → l.length = 0 ∧ c = 0) (hl : l.length ≤ 100000) :
    Calls Try.prog 25 #[.slice a l.length c, .int .u32 x] w (Lays w (addFour l x)) := four_any a c l _ w (by omega) (by omega) hr hn (by omega)
theorem varX (a : Option Addr) (c : Nat) (l : List UInt8) (x : Nat) (w : World) (hx : x ≤ 4294967295) (hr : Row w a (B8 l)) (hn : a = none → l.length = 0 ∧ c = 0) (hl : l.length ≤ 100000) :
    Calls Try.prog 29 #[.slice a l.length c, .int .u32 x] w (Lays w (addVar l x)) := by
  unfold addVar varL
  by_cases h : x ≤ 268435455
  · rw [if_pos h]; exact var_any a c l x w h hr hn (by omega)
  · rw [if_neg h, List.append_nil]; exact var_great a c l x w (by omega) (by omega) hr hn (by omega)
theorem binX (a : Option Addr) (c : Nat) (l : List UInt8) (s : ByteArray) (w : World) (hs : s.size ≤ 65535) (hr : Row w a (B8 l)) (hn : a = none → l.length = 0 ∧ c = 0) (hl : l.length ≤ 100000) :
    Calls Try.prog 31 #[.slice a l.length c, .string s] w (Lays w (addBin l s)) := bin_any a c l s w hs hr hn (by omega)
theorem be_one (x : Nat) : be (0 + 1) (x % 256) = [byteOf ((x : Int) % 256)] := by
  simp only [be, Nat.pow_zero, Nat.div_one]
  congr 2; omega
theorem be_two (x : Nat) : be (1 + 1) (x % 65536) = [byteOf ((x : Int) % 65536 / 256), byteOf ((x : Int) % 65536 % 256)] := by
  simp only [be, Nat.pow_zero, Nat.div_one, Nat.pow_one]
  congr 2
  · omega
theorem be_four (x : Nat) (h : x ≤ 4294967295) : be (3 + 1) x = [byteOf ((x : Int) / 16777216), byteOf ((x : Int) / 65536 % 256), byteOf ((x : Int) / 256 % 256), byteOf ((x : Int) % 256)] := by
  simp only [be, Nat.pow_zero, Nat.div_one, Nat.pow_one]
  have e2 : (256 : Nat) ^ 2 = 65536 := by decide
  have e3 : (256 : Nat) ^ 3 = 16777216 := by decide
  rw [e2, e3, show (((x / 16777216 : Nat) : Int) % 256) = (x : Int) / 16777216 by omega, show (((x / 65536 : Nat) : Int) % 256) = (x : Int) / 65536 % 256 by omega, show (((x / 256 : Nat) : Int) % 256) = (x : Int) / 256 % 256 by omega]
theorem be_bin (x : Nat) (h : x ≤ 65535) : be (1 + 1) x = [byteOf ((x : Int) / 256), byteOf ((x : Int) % 256)] := by
  simp only [be, Nat.pow_zero, Nat.div_one, Nat.pow_one]
  rw [show (((x / 256 : Nat) : Int) % 256) = (x : Int) / 256 by omega]
theorem u64_mod (x m : Nat) : Value.int .u64 ((x : Int) % (m : Int)) = .int .u64 ((x % m : Nat) : Int) := by congr 1
theorem ref1X (a : Option Addr) (c : Nat) (l : List UInt8) (x : Nat) (w : World) (hr : Row w a (B8 l)) (hn : a = none → l.length = 0 ∧ c = 0) (hl : l.length ≤ 100000) :
    Calls Try.prog 28 #[.slice a l.length c, .int .u64 ((x : Int) % 256), .int .i64 1] w (Lays w (addByte l x)) := by
  have := refnum_any a c l (x % 256) 1 0 (by omega) w (by omega) (by omega) hr (fun h => (hn h).2) (by omega)
  rw [be_one] at this; exact this
theorem ref2X (a : Option Addr) (c : Nat) (l : List UInt8) (x : Nat) (w : World) (hr : Row w a (B8 l)) (hn : a = none → l.length = 0 ∧ c = 0) (hl : l.length ≤ 100000) :
    Calls Try.prog 28 #[.slice a l.length c, .int .u64 ((x : Int) % 65536), .int .i64 2] w (Lays w (addTwo l x)) := by
  have := refnum_any a c l (x % 65536) 2 1 (by omega) w (by omega) (by omega) hr (fun h => (hn h).2) (by omega)
  rw [be_two] at this; exact this
theorem ref4X (a : Option Addr) (c : Nat) (l : List UInt8) (x : Nat) (w : World) (hx : x ≤ 4294967295) (hr : Row w a (B8 l)) (hn : a = none → l.length = 0 ∧ c = 0) (hl : l.length ≤ 100000) :
    Calls Try.prog 28 #[.slice a l.length c, .int .u64 x, .int .i64 4] w (Lays w (addFour l x)) := by
  have := refnum_any a c l x 4 3 (by omega) w hx (by omega) hr (fun h => (hn h).2) (by omega)
  rw [be_four x hx] at this; exact this
theorem refvX (a : Option Addr) (c : Nat) (l : List UInt8) (x : Nat) (w : World) (hx : x ≤ 4294967295) (hr : Row w a (B8 l)) (hn : a = none → l.length = 0 ∧ c = 0) (hl : l.length ≤ 100000) :
    Calls Try.prog 30 #[.slice a l.length c, .int .u32 x] w (Lays w (addVar l x)) := by
  unfold addVar varL
  by_cases h : x ≤ 268435455
  · rw [if_pos h]; exact reflvar_any a c l x w h hr (fun h => (hn h).2) (by omega)
  · rw [if_neg h, List.append_nil]; exact reflvar_great a c l x w (by omega) (by omega) hr (fun h => (hn h).2) (by omega)
theorem addTwo_eq (l : List UInt8) (n : Nat) (h : n ≤ 65535) : (l ++ be (1 + 1) n) = l ++ [byteOf ((n : Int) / 256), byteOf ((n : Int) % 256)] := by rw [be_bin n h]

set_option maxRecDepth 100000 in
set_option maxHeartbeats 1000000 in
theorem refbinX (a : Option Addr) (c : Nat) (l : List UInt8) (s : ByteArray) (w : World) (hs : s.size ≤ 65535) (hr : Row w a (B8 l)) (hn : a = none → l.length = 0 ∧ c = 0) (hl : l.length ≤ 100000) :
    Calls Try.prog 32 #[.slice a l.length c, .string s] w (Lays w (addBin l s)) := by
  obtain ⟨i0, hi, hz0, hz1, hz2⟩ := info_parts info_u8
  have hm : maxLen = 9223372036854775807 := rfl
  have hN := fun wx (h : Row wx a (B8 l)) => refnum_any a c l s.size 2 1 (by omega) wx (by omega) (by omega) h (fun h => (hn h).2) (by omega)
  have hq : addBin l s = (l ++ be (1 + 1) s.size) ++ s.data.toList := by unfold addBin; rw [be_bin _ hs]; simp
  have hlen : (l ++ be (1 + 1) s.size).length ≤ 100002 ∧ 0 < (l ++ be (1 + 1) s.size).length := by rw [List.length_append, be_len]; omega
  rw [hq]
  clear hq
  generalize l ++ be (1 + 1) s.size = L at *
  have HN := Lib.hid hN
  clear hN
  have hsI : (s.size : Int) ≤ 65535 := by omega
  go_enter Try.func32, Try.ntmps32
  go_wp2_with (first
    | (go_at_call 28; refine (HN.out _ hr).mono ?_; rintro e w1 ⟨g, cap, rfl, hg, hown1, hk1⟩)
    | (at_builtin; refine Lib.wpList_append_own_string _ rfl _ _ _ _ rfl w.heap.size 5 i0 Try.underlying22 Try.underlying9 hi hz0 hz1 hz2 _ _ _ rfl hown1 s rfl ?f1 ?f2 ?f3 ?_; rotate_right; intro v3 w3 hown3 hg3 hv3))
  case f1 => omega
  case f2 => omega
  case f3 => exact hk1.size
  go_ret
  exact lays_of hown3 (by simp) (by simp [B8_append, B8, Lib.strCells]) (by simp; omega) (hk1.grown hg3 (own_no hown1))

end Go.Proofs.Ytfkddmdoepiikaa
