/-
  What is laid for numbers and texts, and that it is taken again.
-/
import Derived.Test.YtfkddmdoepiikaaPutsA
import Derived.Test.YtfkddmdoepiikaaGreatWalk
namespace Go.Proofs.Ytfkddmdoepiikaa
open Go.RowKit
set_option linter.unusedVariables false
set_option linter.unusedSimpArgs false

def encOne (x : Nat) : List UInt8 := [byteOf ((x : Int) % 256)] ++ ([byteOf ((x : Int) % 65536 / 256), byteOf ((x : Int) % 65536 % 256)] ++ ([byteOf ((x : Int) / 16777216), byteOf ((x : Int) / 65536 % 256), byteOf ((x : Int) / 256 % 256), byteOf ((x : Int) % 256)] ++ varL x))
def encN (ns : List Nat) : List UInt8 := ns.flatMap encOne
def encBin (s : ByteArray) : List UInt8 := byteOf ((s.size : Int) / 256) :: byteOf ((s.size : Int) % 256) :: s.data.toList
def encS (ss : List ByteArray) : List UInt8 := ss.flatMap encBin
theorem add_one (l : List UInt8) (x : Nat) : addVar (addFour (addTwo (addByte l x) x) x) x = l ++ encOne x := by
  unfold addVar addFour addTwo addByte encOne; simp
theorem var7_le : ∀ (f n : Nat), n < 128 ^ (f + 1) → (var7 n).length ≤ f + 1
  | 0, n, h => by rw [var7_lt (by simpa using h)]; simp
  | f + 1, n, h => by
    by_cases hl : n < 128
    · rw [var7_lt hl]; simp
    · rw [var7_ge hl, List.length_cons]
      have := var7_le f (n / 128) (by rw [Nat.pow_succ] at h; omega)
      omega
theorem varL_le (x : Nat) : (varL x).length ≤ 4 := by
  unfold varL; split
  · exact var7_le 3 x (by rename_i h; have : (128 : Nat) ^ (3 + 1) = 268435456 := by decide
                          omega)
  · simp
theorem encOne_le (x : Nat) : (encOne x).length ≤ 11 := by have := varL_le x; unfold encOne; simp; omega
theorem encN_le (ns : List Nat) : (encN ns).length ≤ 11 * ns.length := by
  induction ns with
  | nil => simp [encN]
  | cons x t ih => have := encOne_le x; unfold encN at *; simp only [List.flatMap_cons, List.length_append, List.length_cons]; omega
theorem encS_le (ss : List ByteArray) (h : ∀ s ∈ ss, s.size ≤ 300) : (encS ss).length ≤ 302 * ss.length := by
  induction ss with
  | nil => simp [encS]
  | cons s t ih =>
    have h1 := h s (by simp)
    have h2 := ih fun q hq => h q (by simp [hq])
    have h3 : (encBin s).length = s.size + 2 := by unfold encBin; simp only [List.length_cons, size_list]
    unfold encS at *; simp only [List.flatMap_cons, List.length_append, List.length_cons]; omega
theorem encN_snoc (ns : List Nat) (x : Nat) : encN (ns ++ [x]) = encN ns ++ encOne x := by simp [encN]
theorem encS_snoc (ss : List ByteArray) (s : ByteArray) : encS (ss ++ [s]) = encS ss ++ encBin s := by simp [encS]
theorem encN_cons (ns : List Nat) (x : Nat) : encN (x :: ns) = encOne x ++ encN ns := by simp [encN]
theorem encS_cons (ss : List ByteArray) (s : ByteArray) : encS (s :: ss) = encBin s ++ encS ss := by simp [encS]

/-! Taken again. -/
theorem taken_app (n : Nat) (a b : List UInt8) (h : a.length = n) : taken (n : Int) (a ++ b) 0 = a ∧ leftL (n : Int) (a ++ b) 0 = b ∧ leftE (n : Int) (a ++ b) 0 = 0 := by
  have h1 : (0 : Int) ≤ n ∧ (n : Int) ≤ (a ++ b).length := by rw [List.length_append]; omega
  unfold taken leftL leftE
  rw [if_pos ⟨rfl, h1⟩, if_pos rfl, if_pos h1, if_pos rfl, if_pos h1, Int.toNat_natCast]
  subst h
  exact ⟨List.take_left, List.drop_left, rfl⟩
theorem num_nil : num [] = 0 := rfl
theorem num_snoc' (l : List UInt8) (c : UInt8) : num (l ++ [c]) = num l * 256 + c.toNat := num_snoc l c
theorem byteOf_nat {n : Int} (h0 : 0 ≤ n) (h1 : n ≤ 255) : (byteOf n).toNat = n.toNat := by have := byteOf_val h0 h1; omega
theorem numB (x : Nat) : num [byteOf ((x : Int) % 256)] = x % 256 := by
  rw [num_one, byteOf_nat (by omega) (by omega)]; omega
theorem numT (x : Nat) : num [byteOf ((x : Int) % 65536 / 256), byteOf ((x : Int) % 65536 % 256)] = x % 65536 := by
  have e : num [byteOf ((x : Int) % 65536 / 256), byteOf ((x : Int) % 65536 % 256)] = (0 * 256 + (byteOf ((x : Int) % 65536 / 256)).toNat) * 256 + (byteOf ((x : Int) % 65536 % 256)).toNat := rfl
  rw [e, byteOf_nat (by omega) (by omega), byteOf_nat (by omega) (by omega)]; omega
theorem numF (x : Nat) (h : x ≤ 4294967295) : num [byteOf ((x : Int) / 16777216), byteOf ((x : Int) / 65536 % 256), byteOf ((x : Int) / 256 % 256), byteOf ((x : Int) % 256)] = x := by
  have e : num [byteOf ((x : Int) / 16777216), byteOf ((x : Int) / 65536 % 256), byteOf ((x : Int) / 256 % 256), byteOf ((x : Int) % 256)] = (((0 * 256 + (byteOf ((x : Int) / 16777216)).toNat) * 256 + (byteOf ((x : Int) / 65536 % 256)).toNat) * 256 + (byteOf ((x : Int) / 256 % 256)).toNat) * 256 + (byteOf ((x : Int) % 256)).toNat := rfl
  rw [e, byteOf_nat (by omega) (by omega), byteOf_nat (by omega) (by omega), byteOf_nat (by omega) (by omega), byteOf_nat (by omega) (by omega)]; omega
theorem rv_back : ∀ (f i n y : Nat) (r : List UInt8), y < 128 ^ f → (0 < i → 0 < y) → 0 < f → rv f i n (var7 y ++ r) 0 = (n + y * 128 ^ i, r, 0)
  | 0, _, _, _, _, _, _, h => absurd h (by omega)
  | f + 1, i, n, y, r, hy, hi, _ => by
    by_cases hl : y < 128
    · rw [var7_lt hl, List.cons_append, List.nil_append, rv_cons_done f i n _ _ (by rw [byteOf_nat (by omega) (by omega)]; omega) (by
        rw [byteOf_nat (by omega) (by omega)]; intro ⟨h1, h2⟩; have := hi h2; omega), byteOf_nat (by omega) (by omega)]
      have e : ((y : Int).toNat % 128) = y := by omega
      rw [e]
    · have hb : (byteOf ((y : Int) % 128 + 128)).toNat = y % 128 + 128 := by rw [byteOf_nat (by omega) (by omega)]; omega
      have hf : 0 < f := by
        rcases Nat.eq_zero_or_pos f with h0 | h0
        · subst h0; simp at hy; omega
        · exact h0
      rw [var7_ge hl, List.cons_append, rv_cons_more f i n _ _ (by omega), hb, rv_back f (i + 1) _ (y / 128) r (by rw [Nat.pow_succ] at hy; omega) (by omega) hf]
      have e : n + (y % 128 + 128) % 128 * 128 ^ i + y / 128 * 128 ^ (i + 1) = n + y * 128 ^ i := by
        rw [Nat.pow_succ, show (y % 128 + 128) % 128 = y % 128 by omega, Nat.add_assoc, show y / 128 * (128 ^ i * 128) = (128 * (y / 128)) * 128 ^ i by
          rw [Nat.mul_comm (128 ^ i) 128, ← Nat.mul_assoc, Nat.mul_comm (y / 128) 128], ← Nat.add_mul, Nat.mod_add_div]
      rw [e]
theorem rv_varL (x : Nat) (r : List UInt8) (h : x ≤ 268435455) : rv 4 0 0 (varL x ++ r) 0 = (x, r, 0) := by
  unfold varL
  rw [if_pos h, rv_back 4 0 0 x r (by have : (128 : Nat) ^ 4 = 268435456 := by decide
                                      omega) (by omega) (by omega)]
  simp
/-- The four Readers' steps over one number's bytes. -/
theorem step_byte (x : Nat) (r : List UInt8) : num (taken 1 (encOne x ++ r) 0) = x % 256 ∧ leftE 1 (encOne x ++ r) 0 = 0 ∧
    leftL 1 (encOne x ++ r) 0 = [byteOf ((x : Int) % 65536 / 256), byteOf ((x : Int) % 65536 % 256)] ++ ([byteOf ((x : Int) / 16777216), byteOf ((x : Int) / 65536 % 256), byteOf ((x : Int) / 256 % 256), byteOf ((x : Int) % 256)] ++ (varL x ++ r)) := by
  unfold encOne
  rw [List.append_assoc, List.append_assoc, List.append_assoc]
  obtain ⟨h1, h2, h3⟩ := taken_app 1 [byteOf ((x : Int) % 256)] ([byteOf ((x : Int) % 65536 / 256), byteOf ((x : Int) % 65536 % 256)] ++ ([byteOf ((x : Int) / 16777216), byteOf ((x : Int) / 65536 % 256), byteOf ((x : Int) / 256 % 256), byteOf ((x : Int) % 256)] ++ (varL x ++ r))) rfl
  exact ⟨by rw [show ((1 : Nat) : Int) = 1 from rfl] at h1; rw [h1, numB], h3, h2⟩
theorem step_two (x : Nat) (r : List UInt8) : num (taken 2 ([byteOf ((x : Int) % 65536 / 256), byteOf ((x : Int) % 65536 % 256)] ++ r) 0) = x % 65536 ∧ leftE 2 ([byteOf ((x : Int) % 65536 / 256), byteOf ((x : Int) % 65536 % 256)] ++ r) 0 = 0 ∧ leftL 2 ([byteOf ((x : Int) % 65536 / 256), byteOf ((x : Int) % 65536 % 256)] ++ r) 0 = r := by
  obtain ⟨h1, h2, h3⟩ := taken_app 2 [byteOf ((x : Int) % 65536 / 256), byteOf ((x : Int) % 65536 % 256)] r rfl
  exact ⟨by rw [show ((2 : Nat) : Int) = 2 from rfl] at h1; rw [h1, numT], h3, h2⟩
theorem step_four (x : Nat) (r : List UInt8) (h : x ≤ 4294967295) : num (taken 4 ([byteOf ((x : Int) / 16777216), byteOf ((x : Int) / 65536 % 256), byteOf ((x : Int) / 256 % 256), byteOf ((x : Int) % 256)] ++ r) 0) = x ∧
    leftE 4 ([byteOf ((x : Int) / 16777216), byteOf ((x : Int) / 65536 % 256), byteOf ((x : Int) / 256 % 256), byteOf ((x : Int) % 256)] ++ r) 0 = 0 ∧ leftL 4 ([byteOf ((x : Int) / 16777216), byteOf ((x : Int) / 65536 % 256), byteOf ((x : Int) / 256 % 256), byteOf ((x : Int) % 256)] ++ r) 0 = r := by
  obtain ⟨h1, h2, h3⟩ := taken_app 4 [byteOf ((x : Int) / 16777216), byteOf ((x : Int) / 65536 % 256), byteOf ((x : Int) / 256 % 256), byteOf ((x : Int) % 256)] r rfl
  exact ⟨by rw [show ((4 : Nat) : Int) = 4 from rfl] at h1; rw [h1, numF x h], h3, h2⟩
theorem step_bin (s : ByteArray) (r : List UInt8) (h : s.size ≤ 65535) : binTaken (encBin s ++ r) 0 = s.data.toList ∧ binL (encBin s ++ r) 0 = r ∧ binE (encBin s ++ r) 0 = 0 := by
  unfold encBin
  exact bin_taken _ _ s.data.toList r (by rw [num_two _ h, size_list])

end Go.Proofs.Ytfkddmdoepiikaa
