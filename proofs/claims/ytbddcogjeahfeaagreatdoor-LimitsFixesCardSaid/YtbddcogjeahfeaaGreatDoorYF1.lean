import Derived.Test.YtbddcogjeahfeaaGreatDoorChecked
import Derived.Test.YtbddcogjeahfeaaGreatDoorBase
import Derived.Laws.IdiomStrings
import Derived.Lib.BufferRead
import Derived.Deep.QuietTactic
import Derived.BigQuiet
namespace Go.Proofs.YtbddcogjeahfeaaGreatDoor
open Go.RowKit
set_option linter.unusedVariables false
set_option linter.unusedSimpArgs false
set_option maxRecDepth 100000
theorem info_u8 : (Tryz.prog.info? 5).map (fun i => (i.zero, i.size, i.bytes)) = some (some (.int .u8 0), 1, 1) := by kernel_rfl
def Lays (w : World) (l : List UInt8) (e : Ending) (w' : World) : Prop :=
 ∃ g cap, e = .returned (.slice (some ⟨g, 0, none⟩) l.length cap) ∧ w.heap.size ≤ g ∧ w'.ownsRow w.heap.size 5 1 (.slice (some ⟨g, 0, none⟩) l.length cap) l.length (B8 l) ∧ Kept No w w'
theorem varsize_any (n : Int) (w : World) (h0 : 0 ≤ n) (h1 : n < 4294967296) :
  Calls Tryz.prog 103 #[.int .u32 n] w fun e w' =>
   e = .returned (.int .i64 (if n < 128 then 1 else if n < 16384 then 2 else if n < 2097152 then 3 else if n < 268435456 then 4 else 0)) ∧ w = w' := by
 rcases (show n < 128 ∨ (128 ≤ n ∧ n < 16384) ∨ (16384 ≤ n ∧ n < 2097152) ∨ (2097152 ≤ n ∧ n < 268435456) ∨ 268435456 ≤ n from by omega) with h | ⟨h, h'⟩ | ⟨h, h'⟩ | ⟨h, h'⟩ | h
 all_goals
  go_enter Tryz.func103, Tryz.ntmps103
  go_wp2
  refine wp_loop_rounds 5 ?_
  repeat (rw [rounds_succ]; go_wp2)
  go_ret
  refine ⟨?_, rfl⟩
  congr 2
  repeat (first | rw [if_pos (by omega)] | rw [if_neg (by omega)])
def var7 (n : Nat) : List UInt8 := if n < 128 then [byteOf n] else byteOf ((n : Int) % 128 + 128) :: var7 (n / 128)
termination_by n
decreasing_by omega
theorem var7_lt {n : Nat} (h : n < 128) : var7 n = [byteOf n] := by rw [var7, if_pos h]
theorem var7_ge {n : Nat} (h : ¬ n < 128) : var7 n = byteOf ((n : Int) % 128 + 128) :: var7 (n / 128) := by rw [var7, if_neg h]
theorem row_str {P : Program} {w : World} (src dst e : TypeId) (hs : P.underlying src = some (.slice e)) (he : P.underlying e = some (.int .u8)) (hd : P.underlying dst = some .string)
  {a : Option Addr} {l : List UInt8} (h : Row w a (B8 l)) (cap : Nat) (hn : a = none → cap = 0) : (convert src dst (.slice a l.length cap)).run P w = .ok (.string ⟨l.toArray⟩) w := by
 cases a with
 | none =>
  obtain rfl := hn rfl
  rcases h with h | ⟨b, off, h, _⟩
  ·obtain rfl : l = [] := by cases l <;> simp_all [B8]
   exact Lib.run_convert_nil_bytes w src dst e 0 hs he hd
  ·cases h
 | some ad => exact run_convert_bytes_back w src dst e ad cap l hs he hd fun j hj => h.at_add ad rfl j _ (B8_get l j hj)
def Typ (w : World) (a : Option Addr) (l : List UInt8) : Prop := ∀ b off, a = some ⟨b, off, none⟩ → l ≠ [] → ∃ cs fz, w.heap[b]? = some (.cells cs 5 fz)
theorem Typ.nil (w : World) (a : Option Addr) : Typ w a [] := fun _ _ _ h => absurd rfl h
theorem Typ.kept {w w' : World} {S : Nat → Prop} {a : Option Addr} {l : List UInt8} (h : Typ w a l) (hk : Kept S w w') (hS : ∀ b off, a = some ⟨b, off, none⟩ → l ≠ [] → ¬ S b) : Typ w' a l := by
 intro b off ha hl
 obtain ⟨cs, fz, hb⟩ := h b off ha hl
 exact ⟨cs, fz, (hk.block b (Array.getElem?_eq_some_iff.1 hb).1 (hS b off ha hl)).trans hb⟩
def NoByte (w : World) (b : Nat) : Prop := ∀ off n, w.cell? ⟨b, off, none⟩ ≠ some (.int .u8 n)
theorem NoByte.two {w : World} {b : Nat} {t : TypeId} {x y : Value} (hb : Blk w b t #[x, y]) (hx : ∀ n, x ≠ .int .u8 n) (hy : ∀ n, y ≠ .int .u8 n) : NoByte w b := by
 intro off n h
 rw [hb.cell] at h
 match off, h with
 | 0, h => exact hx _ (by simpa using h)
 | 1, h => exact hy _ (by simpa using h)
 | k + 2, h => simp at h
theorem NoByte.three {w : World} {b : Nat} {t : TypeId} {x y z : Value} (hb : Blk w b t #[x, y, z]) (hx : ∀ n, x ≠ .int .u8 n) (hy : ∀ n, y ≠ .int .u8 n) (hz : ∀ n, z ≠ .int .u8 n) : NoByte w b := by
 intro off n h
 rw [hb.cell] at h
 match off, h with
 | 0, h => exact hx _ (by simpa using h)
 | 1, h => exact hy _ (by simpa using h)
 | 2, h => exact hz _ (by simpa using h)
 | k + 3, h => simp at h
theorem var7_len (n : Nat) (h : n ≤ 268435455) : (if (n : Int) < 128 then 1 else if (n : Int) < 16384 then 2 else if (n : Int) < 2097152 then 3 else if (n : Int) < 268435456 then 4 else 0) = ((var7 n).length : Int) := by
 rcases (show n < 128 ∨ (128 ≤ n ∧ n < 16384) ∨ (16384 ≤ n ∧ n < 2097152) ∨ (2097152 ≤ n ∧ n < 268435456) from by omega) with h | ⟨h, h'⟩ | ⟨h, h'⟩ | ⟨h, h'⟩
 ·rw [if_pos (by omega), var7_lt h]; rfl
 ·rw [if_neg (by omega), if_pos (by omega), var7_ge (by omega), var7_lt (by omega)]; rfl
 ·rw [if_neg (by omega), if_neg (by omega), if_pos (by omega), var7_ge (by omega), var7_ge (by omega), var7_lt (by omega)]; rfl
 ·rw [if_neg (by omega), if_neg (by omega), if_neg (by omega), if_pos (by omega), var7_ge (by omega), var7_ge (by omega), var7_ge (by omega), var7_lt (by omega)]; rfl
def varL (n : Nat) : List UInt8 := if n ≤ 268435455 then var7 n else []
theorem varL_size (n : Nat) (h : n < 4294967296) (w : World) : Calls Tryz.prog 103 #[.int .u32 n] w fun e w' => e = .returned (.int .i64 (varL n).length) ∧ w = w' := by
 have h2 := varsize_any n w (by omega) (by omega)
 unfold varL
 by_cases h1 : n ≤ 268435455
 ·rw [var7_len n h1] at h2; rw [if_pos h1]; exact h2
 ·rw [if_neg h1]
  have e : (if (n : Int) < 128 then 1 else if (n : Int) < 16384 then 2 else if (n : Int) < 2097152 then 3 else if (n : Int) < 268435456 then 4 else 0) = (0 : Int) := by
   repeat rw [if_neg (by omega)]
  rw [e] at h2; exact h2
def be : Nat → Nat → List UInt8
 | 0, _ => []
 | k + 1, n => byteOf (((n / 256 ^ k : Nat) : Int) % 256) :: be k n
def addByte (l : List UInt8) (x : Nat) : List UInt8 := l ++ [byteOf ((x : Int) % 256)]
def addTwo (l : List UInt8) (x : Nat) : List UInt8 := l ++ [byteOf ((x : Int) % 65536 / 256), byteOf ((x : Int) % 65536 % 256)]
def addFour (l : List UInt8) (x : Nat) : List UInt8 := l ++ [byteOf ((x : Int) / 16777216), byteOf ((x : Int) / 65536 % 256), byteOf ((x : Int) / 256 % 256), byteOf ((x : Int) % 256)]
def addVar (l : List UInt8) (x : Nat) : List UInt8 := l ++ varL x
def addBin (l : List UInt8) (s : ByteArray) : List UInt8 := l ++ (byteOf ((s.size : Int) / 256) :: byteOf ((s.size : Int) % 256) :: s.data.toList)
end Go.Proofs.YtbddcogjeahfeaaGreatDoor
