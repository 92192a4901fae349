/-
  What both sides lay, and what a Var is: for seats without stage 1's laws.
-/
import Derived.Test.YtfhcmmmgnkinoaaDoorRef3
import Derived.Test.YtfhcmmmgnkinoaaDoorRefl
namespace Go.Proofs.YtfhcmmmgnkinoaaDoor
open Go.RowKit
set_option linter.unusedVariables false
set_option linter.unusedSimpArgs false
set_option maxRecDepth 100000

/-- What is told of a Var is laid by just the bytes that it was taken from. -/
theorem rv_var7 : ∀ (f i n : Nat) (l : List UInt8) (x : Nat) (l' : List UInt8), rv f i n l 0 = (x, l', 0) → ∃ y, x = n + y * 128 ^ i ∧ l = var7 y ++ l' ∧ (0 < i → 0 < y) := by
  intro f
  induction f with
  | zero => intro i n l x l' h; simp [rv] at h
  | succ f ih =>
    intro i n l x l' h
    cases l with
    | nil => rw [rv_nil] at h; simp at h
    | cons c t =>
      by_cases hc : 128 ≤ c.toNat
      · rw [rv_cons_more _ _ _ _ _ hc] at h
        obtain ⟨y, hx, ht, hy⟩ := ih _ _ _ _ _ h
        have hy0 : 0 < y := hy (by omega)
        refine ⟨c.toNat % 128 + 128 * y, ?_, ?_, fun _ => by omega⟩
        · rw [hx, Nat.pow_succ, Nat.add_mul, Nat.mul_comm (128 ^ i) 128, ← Nat.mul_assoc, Nat.mul_comm y 128]; omega
        · rw [var7_ge (by omega), ht]
          have e1 : (c.toNat % 128 + 128 * y) / 128 = y := by omega
          have hlt := byte_lt c
          have e2 : byteOf (((c.toNat % 128 + 128 * y : Nat) : Int) % 128 + 128) = c := by
            unfold byteOf
            have : (((c.toNat % 128 + 128 * y : Nat) : Int) % 128 + 128).toNat = c.toNat := by omega
            rw [this]; simp
          rw [e1, e2]; rfl
      · by_cases hz : c.toNat = 0 ∧ 0 < i
        · rw [rv_cons_zero _ _ _ _ _ hz.1 hz.2] at h; simp at h
        · rw [rv_cons_done _ _ _ _ _ (by omega) hz] at h
          simp only [Prod.mk.injEq] at h
          obtain ⟨hx, ht, _⟩ := h
          have e : c.toNat % 128 = c.toNat := by omega
          rw [e] at hx
          refine ⟨c.toNat, hx.symm, ?_, fun hi => by omega⟩
          rw [var7_lt (by omega), ← ht]
          simp [byteOf]
theorem rv_lt : ∀ (f i n : Nat) (l : List UInt8) (err : Int), n < 128 ^ i → (rv f i n l err).1 < 128 ^ (i + f) := by
  intro f
  induction f with
  | zero => intro i n l err h; simp [rv]; exact Nat.pow_pos (by omega)
  | succ f ih =>
    intro i n l err h
    have hm : num (taken 1 l err) % 128 < 128 := Nat.mod_lt _ (by omega)
    have hb : n + num (taken 1 l err) % 128 * 128 ^ i < 128 ^ (i + 1) := by
      rw [Nat.pow_succ]
      have := Nat.mul_le_mul_right (128 ^ i) (show num (taken 1 l err) % 128 ≤ 127 from by omega)
      omega
    have hp : 128 ^ (i + 1) ≤ 128 ^ (i + (f + 1)) := Nat.pow_le_pow_right (by omega) (by omega)
    have hpos : 0 < 128 ^ (i + (f + 1)) := Nat.pow_pos (by omega)
    rw [rv]
    split
    · exact hpos
    · split
      · have := ih (i + 1) _ (leftL 1 l err) (leftE 1 l err) hb
        rwa [show i + 1 + f = i + (f + 1) from by omega] at this
      · split
        · exact hpos
        · exact Nat.lt_of_lt_of_le hb hp

theorem var7_len (n : Nat) (h : n ≤ 268435455) : (if (n : Int) < 128 then 1 else if (n : Int) < 16384 then 2 else if (n : Int) < 2097152 then 3 else if (n : Int) < 268435456 then 4 else 0) = ((var7 n).length : Int) := by
  rcases (show n < 128 ∨ (128 ≤ n ∧ n < 16384) ∨ (16384 ≤ n ∧ n < 2097152) ∨ (2097152 ≤ n ∧ n < 268435456) from by omega) with h | ⟨h, h'⟩ | ⟨h, h'⟩ | ⟨h, h'⟩
  · rw [if_pos (by omega), var7_lt h]; rfl
  · rw [if_neg (by omega), if_pos (by omega), var7_ge (by omega), var7_lt (by omega)]; rfl
  · rw [if_neg (by omega), if_neg (by omega), if_pos (by omega), var7_ge (by omega), var7_ge (by omega), var7_lt (by omega)]; rfl
  · rw [if_neg (by omega), if_neg (by omega), if_neg (by omega), if_pos (by omega), var7_ge (by omega), var7_ge (by omega), var7_ge (by omega), var7_lt (by omega)]; rfl
/-- The document's Var of n and the program's, and its size: of n within the bounds n's digits, else none. -/
def varL (n : Nat) : List UInt8 := if n ≤ 268435455 then var7 n else []
theorem varL_ref (n : Nat) (h : n ≤ 268435455) (w : World) : Calls Tryd.prog 50 #[.slice none 0 0, .int .u32 n] w (Lays w (varL n)) := by
  have := reflvar_any none 0 [] n w h (Row.nil _ _) (fun _ => rfl) (by simp)
  rw [varL, if_pos h]
  exact this
theorem varL_var (n : Nat) (h : n < 4294967296) (w : World) : Calls Tryd.prog 45 #[.slice none 0 0, .int .u32 n] w (Lays w (varL n)) := by
  unfold varL
  by_cases h1 : n ≤ 268435455
  · rw [if_pos h1]; exact var_any none 0 [] n w h1 (Row.nil _ _) (fun _ => ⟨rfl, rfl⟩) (by simp)
  · rw [if_neg h1]; exact var_great none 0 [] n w (by omega) h (Row.nil _ _) (fun _ => ⟨rfl, rfl⟩) (by simp)
theorem varL_size (n : Nat) (h : n < 4294967296) (w : World) : Calls Tryd.prog 51 #[.int .u32 n] w fun e w' => e = .returned (.int .i64 (varL n).length) ∧ w = w' := by
  have h2 := varsize_any n w (by omega) (by omega)
  unfold varL
  by_cases h1 : n ≤ 268435455
  · rw [var7_len n h1] at h2; rw [if_pos h1]; exact h2
  · rw [if_neg h1]
    have e : (if (n : Int) < 128 then 1 else if (n : Int) < 16384 then 2 else if (n : Int) < 2097152 then 3 else if (n : Int) < 268435456 then 4 else 0) = (0 : Int) := by
      repeat rw [if_neg (by omega)]
    rw [e] at h2; exact h2

theorem varL_var0 (n : Nat) (h0 : ¬ n ≤ 268435455) (h : n < 4294967296) (w : World) : Calls Tryd.prog 45 #[.slice none 0 0, .int .u32 n] w fun e w' => ∃ g cap, e = .returned (.slice (some ⟨g, 0, none⟩) 0 cap) ∧ Kept No w w' := by
  have h2 := varL_var n h w
  rw [varL, if_neg h0] at h2
  exact h2.mono fun e w' ⟨g, cap, h1, _, _, h4⟩ => ⟨g, cap, h1, h4⟩
theorem varL_size0 (n : Nat) (h0 : ¬ n ≤ 268435455) (h : n < 4294967296) (w : World) : Calls Tryd.prog 51 #[.int .u32 n] w fun e w' => e = .returned (.int .i64 0) ∧ w = w' := by
  have h2 := varL_size n h w
  rw [varL, if_neg h0] at h2
  exact h2
theorem keepS {w5 w w' : World} {rb o : Nat} {v : Value} (h2 : Kept No w w') (hlt : rb < w5.heap.size) (h : w.cell? ⟨rb, o, none⟩ = some v ∧ Kept No w5 w) : w'.cell? ⟨rb, o, none⟩ = some v ∧ Kept No w5 w' :=
  ⟨(h2.cell (p := ⟨rb, o, none⟩) (Nat.lt_of_lt_of_le hlt h.2.size) (fun f => f)).trans h.1, h.2.trans h2⟩
theorem Rdr.held {w5 w : World} {r : Nat} {l : List UInt8} {err : Int} {A : Prop} (h : Rdr w5 r l err) (hS : A ∧ Kept No w5 w) : Rdr w r l err := h.keptNo hS.2

theorem read_at (a : Option Addr) (c m : Nat) (l : List UInt8) (hm : Hid (l.length = m)) (w : World) (hr : Row w a (B8 l)) (hn : a = none → c = 0) (hl : l.length ≤ 140737000000000) :
    Calls Tryd.prog 16 #[.slice a m c] w fun e w' => ∃ r, e = .returned (.pointer (some ⟨r, 0, none⟩)) ∧ w.heap.size ≤ r ∧ Rdr w' r l 0 ∧ Kept No w w' := by
  have h := hm.out
  subst h
  exact read_any a c l w hr (row_none hr hn) hl
theorem str_at {w : World} {a : Option Addr} {l : List UInt8} {m : Nat} (hm : Hid (l.length = m)) (h : Row w a (B8 l)) (cap : Nat) (hn : a = none → cap = 0) :
    (convert 25 9 (.slice a m cap)).run Tryd.prog w = .ok (.string ⟨l.toArray⟩) w := by
  have h1 := hm.out
  subst h1
  exact row_str _ _ _ Tryd.underlying25 Tryd.underlying5 Tryd.underlying9 h cap hn

theorem refvar_any (w : World) (r : Nat) (B : ByteArray) (l : List UInt8) (err : Int) (h : RefR w r B l err) :
    Calls Tryd.prog 58 #[.pointer (some ⟨r, 0, none⟩)] w (RrvIs (rv 4 0 0 l err) w r B) := by
  by_cases he : err = 0
  · subst he; exact refvar_ok w r B l h
  · exact refvar_bad w r B l err h he

/-- A number's bytes, the highest first. -/
def be : Nat → Nat → List UInt8
  | 0, _ => []
  | k + 1, n => byteOf (((n / 256 ^ k : Nat) : Int) % 256) :: be k n
theorem be_len : ∀ k n, (be k n).length = k
  | 0, _ => rfl
  | k + 1, n => by simp [be, be_len k n]
theorem be_succ (k n m : Nat) (h : m = n / 256 ^ k) : be (k + 1) n = byteOf ((m : Int) % 256) :: be k n := by subst h; rfl
theorem div_succ (n j m : Nat) (h : m = n / 256 ^ j) : m / 256 = n / 256 ^ (j + 1) := by
  subst h; rw [Nat.pow_succ, ← Nat.div_div_eq_div_mul]
theorem u64_quo (m : Nat) : Value.int .u64 ((m : Int) / 256) = .int .u64 ((m / 256 : Nat) : Int) := by
  congr 1

set_option maxRecDepth 100000 in
set_option maxHeartbeats 1000000 in
theorem refnum_any (a : Option Addr) (c : Nat) (l : List UInt8) (n : Nat) (sz : Int) (s : Nat) (hsz : sz = (s : Int) + 1) (w : World) (h1 : n ≤ 4294967295) (hs : s ≤ 3) (hr : Row w a (B8 l)) (hn : a = none → c = 0) (hl : l.length ≤ 140737000000000) :
    Calls Tryd.prog 88 #[.slice a l.length c, .int .u64 n, .int .i64 sz] w (Lays w (l ++ be (s + 1) n)) := by
  obtain ⟨i0, hi, hz0, hz1, hz2⟩ := info_parts info_u8
  have hm : maxLen = 9223372036854775807 := rfl
  subst hsz
  go_enter Tryd.func88, Tryd.ntmps88
  go_wp2_with (at_builtin; refine wpList_append_row _ rfl _ _ _ rfl w.heap.size 5 i0 _ 1 Tryd.underlying25 hi hz0 hz1 hz2 rfl _ _ _ rfl (own_empty w _ _ (Nat.le_refl _)) a l.length c (B8 l) rfl (by simp) ?c0 hn (B8_one _) ?c1 ?c2 ?c3 ?_; rotate_right; intro v1 w1 hown1 hg1 hv1)
  case c0 => exact hr.keptNo ((Kept.refl No w).alloc _)
  case c1 => omega
  case c2 => omega
  case c3 => simp
  have hk1 : Kept No w w1 := ((Kept.refl No w).alloc _).grown hg1 (own_no (own_empty w _ 5 (Nat.le_refl _)))
  clear hg1 hv1
  go_loopw [7, 8] (fun v i wr => ∃ (k : Nat) (p : List UInt8), ((k = 0 ∧ i = .int .i64 (-1)) ∨ ∃ k' : Nat, k = k' + 1 ∧ i = .int .i64 k') ∧ k ≤ s + 1 ∧ p ++ be k n = be (s + 1) n ∧ p.length + k = s + 1 ∧ wr.ownsRow w.heap.size 5 1 v (l ++ p).length (B8 (l ++ p)) ∧ Kept No w wr) (fun _ i _ => (intOf i + 1).toNat)
  case atStart => exact ⟨s + 1, [], .inr ⟨s, rfl, by go_num⟩, by omega, rfl, by simp, by simpa using hown1, hk1⟩
  case round =>
    obtain ⟨k, p, hik, hks, hp, hpl, hown, hk⟩ := hrel
    have HP := Lib.hid hp
    have HPL := Lib.hid hpl
    have hpl3 : p.length ≤ 4 := by omega
    clear hp hown1 hk1 hpl
    have hsz := hk.size
    rcases hik with ⟨rfl, rfl⟩ | ⟨k', rfl, rfl⟩
    · go_wp2
      go_ret
      have e1 : p = be (s + 1) n := by rw [← HP.out]; simp [be]
      subst e1
      exact lays_of hown rfl rfl (by simp [be_len]; omega) hk
    · go_wp2
      go_loop [9, 10] (fun x j => ∃ (jn m : Nat), jn ≤ k' ∧ j = .int .i64 jn ∧ x = .int .u64 m ∧ Hid (m = n / 256 ^ jn) ∧ m ≤ 4294967295) (fun _ j => k' - (intOf j).toNat)
      case atStart => exact ⟨0, n, by omega, rfl, rfl, Lib.hid (by simp), h1⟩
      case round =>
        obtain ⟨jn, m, hj, rfl, rfl, HM, hm9⟩ := hrel
        by_cases hlt : jn < k'
        · have hltI : (jn : Int) < k' := by omega
          go_wp2
          go_round
          case rel => exact ⟨jn + 1, m / 256, by omega, by go_num, u64_quo m, Lib.hid (div_succ n jn m HM.out), by omega⟩
          case measure => simp [intOf]; omega
        · have hjk : jn = k' := by omega
          have HJ := Lib.hid hjk
          have hge : (k' : Int) ≤ jn := by omega
          clear hjk
          go_wp2_with (at_builtin; refine wpList_append_own _ rfl _ _ _ rfl w.heap.size 5 i0 _ 1 1 Tryd.underlying25 hi hz0 hz1 hz2 rfl (by decide) _ _ _ rfl (hown.alloc _) ⟨wr.heap.size, 0, none⟩ 1 1 (B8 [byteOf ((m : Int) % 256)]) rfl rfl ?e1 (B8_one _) ?e2 ?e3 ?e4 ?_; rotate_right; intro v2 w2 hown2 hg2 _)
          case e1 => first | exact new_at (by rw [B8_cons (by omega) (by omega)]; rfl) | (intro j u hu; rw [B8_cons (by omega) (by omega)] at hu; exact hu)
          case e2 => first | omega | (simp; omega) | (simp; done)
          case e3 => first | omega | (simp; omega) | (simp; done)
          case e4 => first | omega | (simp; omega) | (simp; done)
          have hnew : (p ++ [byteOf ((m : Int) % 256)]) ++ be k' n = be (s + 1) n := by
            rw [← HP.out, be_succ k' n m (by rw [HM.out, HJ.out])]; simp
          go_roundw
          case rel => exact ⟨k', p ++ [byteOf ((m : Int) % 256)], by
              rcases Nat.eq_zero_or_pos k' with h0 | h0
              · exact .inl ⟨h0, by subst h0; rfl⟩
              · exact .inr ⟨k' - 1, by omega, by go_num⟩, by omega, hnew, by have := HPL.out; simp only [List.length_append, List.length_cons, List.length_nil]; omega, by simpa [B8_append, List.append_assoc, Nat.add_assoc] using hown2, (hk.alloc _).grown hg2 (own_no hown)⟩
          case measure => simp [intOf]

/-! What both sides lay, by one word each. -/
def addByte (l : List UInt8) (x : Nat) : List UInt8 := l ++ [byteOf ((x : Int) % 256)]
def addTwo (l : List UInt8) (x : Nat) : List UInt8 := l ++ [byteOf ((x : Int) % 65536 / 256), byteOf ((x : Int) % 65536 % 256)]
def addFour (l : List UInt8) (x : Nat) : List UInt8 := l ++ [byteOf ((x : Int) / 16777216), byteOf ((x : Int) / 65536 % 256), byteOf ((x : Int) / 256 % 256), byteOf ((x : Int) % 256)]
def addVar (l : List UInt8) (x : Nat) : List UInt8 := l ++ varL x
def addBin (l : List UInt8) (s : ByteArray) : List UInt8 := l ++ (byteOf ((s.size : Int) / 256) :: byteOf ((s.size : Int) % 256) :: s.data.toList)
theorem byteX (a : Option Addr) (c : Nat) (l : List UInt8) (x : Nat) (w : World) (hr : Row w a (B8 l)) (hn : a = none → l.length = 0 ∧ c = 0) (hl : l.length ≤ 100000) :
    Calls Tryd.prog 81 #[.slice a l.length c, .int .u8 ((x : Int) % 256)] w (Lays w (addByte l x)) := byte_any a c l _ w (by omega) (by omega) hr hn (by omega)
theorem twoX (a : Option Addr) (c : Nat) (l : List UInt8) (x : Nat) (w : World) (hr : Row w a (B8 l)) (hn : a = none → l.length = 0 ∧ c = 0) (hl : l.length ≤ 100000) :
    Calls Tryd.prog 83 #[.slice a l.length c, .int .u16 ((x : Int) % 65536)] w (Lays w (addTwo l x)) := two_any a c l _ w (by omega) (by omega) hr hn (by omega)
theorem fourX (a : Option Addr) (c : Nat) (l : List UInt8) (x : Nat) (w : World) (hx : x ≤ 4294967295) (hr : Row w a (B8 l)) (hn : a = none → l.length = 0 ∧ c = 0) (hl : l.length ≤ 100000) :
    Calls Tryd.prog 84 #[.slice a l.length c, .int .u32 x] w (Lays w (addFour l x)) := four_any a c l _ w (by omega) (by omega) hr hn (by omega)
theorem varX (a : Option Addr) (c : Nat) (l : List UInt8) (x : Nat) (w : World) (hx : x ≤ 4294967295) (hr : Row w a (B8 l)) (hn : a = none → l.length = 0 ∧ c = 0) (hl : l.length ≤ 100000) :
    Calls Tryd.prog 45 #[.slice a l.length c, .int .u32 x] w (Lays w (addVar l x)) := by
  unfold addVar varL
  by_cases h : x ≤ 268435455
  · rw [if_pos h]; exact var_any a c l x w h hr hn (by omega)
  · rw [if_neg h, List.append_nil]; exact var_great a c l x w (by omega) (by omega) hr hn (by omega)
theorem binX (a : Option Addr) (c : Nat) (l : List UInt8) (s : ByteArray) (w : World) (hs : s.size ≤ 65535) (hr : Row w a (B8 l)) (hn : a = none → l.length = 0 ∧ c = 0) (hl : l.length ≤ 100000) :
    Calls Tryd.prog 85 #[.slice a l.length c, .string s] w (Lays w (addBin l s)) := bin_any a c l s w hs hr hn (by omega)
theorem be_one (x : Nat) : be (0 + 1) (x % 256) = [byteOf ((x : Int) % 256)] := by
  simp only [be, Nat.pow_zero, Nat.div_one]
  congr 2; omega
theorem be_two (x : Nat) : be (1 + 1) (x % 65536) = [byteOf ((x : Int) % 65536 / 256), byteOf ((x : Int) % 65536 % 256)] := by
  simp only [be, Nat.pow_zero, Nat.div_one, Nat.pow_one]
  congr 2
  · omega
theorem be_four (x : Nat) (h : x ≤ 4294967295) : be (3 + 1) x = [byteOf ((x : Int) / 16777216), byteOf ((x : Int) / 65536 % 256), byteOf ((x : Int) / 256 % 256), byteOf ((x : Int) % 256)] := by
  simp only [be, Nat.pow_zero, Nat.div_one, Nat.pow_one]
  have e2 : (256 : Nat) ^ 2 = 65536 := by decide
  have e3 : (256 : Nat) ^ 3 = 16777216 := by decide
  rw [e2, e3, show (((x / 16777216 : Nat) : Int) % 256) = (x : Int) / 16777216 by omega, show (((x / 65536 : Nat) : Int) % 256) = (x : Int) / 65536 % 256 by omega, show (((x / 256 : Nat) : Int) % 256) = (x : Int) / 256 % 256 by omega]
theorem be_bin (x : Nat) (h : x ≤ 65535) : be (1 + 1) x = [byteOf ((x : Int) / 256), byteOf ((x : Int) % 256)] := by
  simp only [be, Nat.pow_zero, Nat.div_one, Nat.pow_one]
  rw [show (((x / 256 : Nat) : Int) % 256) = (x : Int) / 256 by omega]
theorem u64_mod (x m : Nat) : Value.int .u64 ((x : Int) % (m : Int)) = .int .u64 ((x % m : Nat) : Int) := by congr 1
theorem ref1X (a : Option Addr) (c : Nat) (l : List UInt8) (x : Nat) (w : World) (hr : Row w a (B8 l)) (hn : a = none → l.length = 0 ∧ c = 0) (hl : l.length ≤ 100000) :
    Calls Tryd.prog 88 #[.slice a l.length c, .int .u64 ((x : Int) % 256), .int .i64 1] w (Lays w (addByte l x)) := by
  have := refnum_any a c l (x % 256) 1 0 (by omega) w (by omega) (by omega) hr (fun h => (hn h).2) (by omega)
  rw [be_one] at this; exact this
theorem ref2X (a : Option Addr) (c : Nat) (l : List UInt8) (x : Nat) (w : World) (hr : Row w a (B8 l)) (hn : a = none → l.length = 0 ∧ c = 0) (hl : l.length ≤ 100000) :
    Calls Tryd.prog 88 #[.slice a l.length c, .int .u64 ((x : Int) % 65536), .int .i64 2] w (Lays w (addTwo l x)) := by
  have := refnum_any a c l (x % 65536) 2 1 (by omega) w (by omega) (by omega) hr (fun h => (hn h).2) (by omega)
  rw [be_two] at this; exact this
theorem ref4X (a : Option Addr) (c : Nat) (l : List UInt8) (x : Nat) (w : World) (hx : x ≤ 4294967295) (hr : Row w a (B8 l)) (hn : a = none → l.length = 0 ∧ c = 0) (hl : l.length ≤ 100000) :
    Calls Tryd.prog 88 #[.slice a l.length c, .int .u64 x, .int .i64 4] w (Lays w (addFour l x)) := by
  have := refnum_any a c l x 4 3 (by omega) w hx (by omega) hr (fun h => (hn h).2) (by omega)
  rw [be_four x hx] at this; exact this
theorem refvX (a : Option Addr) (c : Nat) (l : List UInt8) (x : Nat) (w : World) (hx : x ≤ 4294967295) (hr : Row w a (B8 l)) (hn : a = none → l.length = 0 ∧ c = 0) (hl : l.length ≤ 100000) :
    Calls Tryd.prog 50 #[.slice a l.length c, .int .u32 x] w (Lays w (addVar l x)) := by
  unfold addVar varL
  by_cases h : x ≤ 268435455
  · rw [if_pos h]; exact reflvar_any a c l x w h hr (fun h => (hn h).2) (by omega)
  · rw [if_neg h, List.append_nil]; exact reflvar_great a c l x w (by omega) (by omega) hr (fun h => (hn h).2) (by omega)
theorem addTwo_eq (l : List UInt8) (n : Nat) (h : n ≤ 65535) : (l ++ be (1 + 1) n) = l ++ [byteOf ((n : Int) / 256), byteOf ((n : Int) % 256)] := by rw [be_bin n h]

set_option maxRecDepth 100000 in
set_option maxHeartbeats 1000000 in
theorem refbinX (a : Option Addr) (c : Nat) (l : List UInt8) (s : ByteArray) (w : World) (hs : s.size ≤ 65535) (hr : Row w a (B8 l)) (hn : a = none → l.length = 0 ∧ c = 0) (hl : l.length ≤ 100000) :
    Calls Tryd.prog 89 #[.slice a l.length c, .string s] w (Lays w (addBin l s)) := by
  obtain ⟨i0, hi, hz0, hz1, hz2⟩ := info_parts info_u8
  have hm : maxLen = 9223372036854775807 := rfl
  have hN := fun wx (h : Row wx a (B8 l)) => refnum_any a c l s.size 2 1 (by omega) wx (by omega) (by omega) h (fun h => (hn h).2) (by omega)
  have hq : addBin l s = (l ++ be (1 + 1) s.size) ++ s.data.toList := by unfold addBin; rw [be_bin _ hs]; simp
  have hlen : (l ++ be (1 + 1) s.size).length ≤ 100002 ∧ 0 < (l ++ be (1 + 1) s.size).length := by rw [List.length_append, be_len]; omega
  rw [hq]
  clear hq
  generalize l ++ be (1 + 1) s.size = L at *
  have HN := Lib.hid hN
  clear hN
  have hsI : (s.size : Int) ≤ 65535 := by omega
  go_enter Tryd.func89, Tryd.ntmps89
  go_wp2_with (first
    | (go_at_call 88; refine (HN.out _ hr).mono ?_; rintro e w1 ⟨g, cap, rfl, hg, hown1, hk1⟩)
    | (at_builtin; refine Lib.wpList_append_own_string _ rfl _ _ _ _ rfl w.heap.size 5 i0 Tryd.underlying25 Tryd.underlying9 hi hz0 hz1 hz2 _ _ _ rfl hown1 s rfl ?f1 ?f2 ?f3 ?_; rotate_right; intro v3 w3 hown3 hg3 hv3))
  case f1 => omega
  case f2 => omega
  case f3 => exact hk1.size
  go_ret
  exact lays_of hown3 (by simp) (by simp [B8_append, B8, Lib.strCells]) (by simp; omega) (hk1.grown hg3 (own_no hown1))

end Go.Proofs.YtfhcmmmgnkinoaaDoor
