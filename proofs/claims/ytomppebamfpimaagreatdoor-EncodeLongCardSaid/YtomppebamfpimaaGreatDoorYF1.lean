import Derived.Test.YtomppebamfpimaaGreatDoorChecked
import Derived.Test.YtomppebamfpimaaGreatDoorBase
import Derived.Laws.IdiomStrings
import Derived.Lib.BufferRead
import Derived.Deep.QuietTactic
import Derived.BigQuiet
namespace Go.Proofs.YtomppebamfpimaaGreatDoor
open Go.RowKit
set_option linter.unusedVariables false
set_option linter.unusedSimpArgs false
set_option maxRecDepth 100000
theorem info_u8 : (Tryz.prog.info? 5).map (fun i => (i.zero, i.size, i.bytes)) = some (some (.int .u8 0), 1, 1) := by kernel_rfl
def Lays (w : World) (l : List UInt8) (e : Ending) (w' : World) : Prop :=
 ∃ g cap, e = .returned (.slice (some ⟨g, 0, none⟩) l.length cap) ∧ w.heap.size ≤ g ∧ w'.ownsRow w.heap.size 5 1 (.slice (some ⟨g, 0, none⟩) l.length cap) l.length (B8 l) ∧ Kept No w w'
theorem lays_not {w w' : World} {v : Value} {l : List UInt8} {n : Nat} {xs : List Value} (h : w'.ownsRow w.heap.size 5 1 v n xs) (hn : n = l.length) (hx : xs = B8 l) (h0 : v ≠ .slice none 0 0) (hk : Kept No w w') : Lays w l (.returned v) w' := by
 subst hn hx
 rcases h.2 with ⟨hv, _⟩ | ⟨g, cap, cur, hv, hg, _⟩
 ·exact absurd hv h0
 ·subst hv; exact ⟨g, cap, rfl, hg, h, hk⟩
theorem lays_of {w w' : World} {v : Value} {l : List UInt8} {n : Nat} {xs : List Value} (h : w'.ownsRow w.heap.size 5 1 v n xs) (hn : n = l.length) (hx : xs = B8 l) (h0 : 0 < l.length) (hk : Kept No w w') : Lays w l (.returned v) w' := by
 subst hn hx
 obtain ⟨g, cap, hv, hg, _⟩ := h.form h0
 subst hv
 exact ⟨g, cap, rfl, hg, h, hk⟩
set_option maxHeartbeats 400000 in
theorem grown_any (a : Option Addr) (c : Nat) (l : List UInt8) (room : Int) (w : World) (h0 : 0 ≤ room) (hr : Row w a (B8 l)) (hn : a = none → l.length = 0 ∧ c = 0) (hl : l.length + room ≤ 140737488355328) :
  Calls Tryz.prog 119 #[.slice a l.length c, .int .i64 room] w fun e w' =>
   ∃ g, e = .returned (.slice (some ⟨g, 0, none⟩) l.length (l.length + room.toNat)) ∧ w.heap.size ≤ g ∧ w'.ownsRow w.heap.size 5 1 (.slice (some ⟨g, 0, none⟩) l.length (l.length + room.toNat)) l.length (B8 l) ∧ Kept No w w' := by
 obtain ⟨i0, hi, hz0, hz1, hz2⟩ := info_parts info_u8
 have hm : maxLen = 9223372036854775807 := rfl
 obtain ⟨room, rfl⟩ := Int.eq_ofNat_of_zero_le h0
 rw [Int.toNat_natCast]
 go_enter Tryz.func119, Tryz.ntmps119
 go_wp2_with (first
  | (at_make; refine wpList_make_own _ rfl _ _ _ rfl w.heap.size 5 i0 _ 1 Tryz.underlying25 hi hz0 hz1 .i64 .i64 _ (l.length + room) rfl rfl ?c1 ?c2 ?c3 (Nat.le_refl _) ?_; rotate_right; intro w1 hown1 hg1)
  | (at_builtin; refine wpList_append_fits_any _ rfl _ _ _ rfl w.heap.size 5 i0 1 Tryz.underlying25 hi hz1 _ 0 _ [] rfl hown1 a l.length c (B8 l) rfl ?d1 hn ?d2 (B8_one l) ?d3 ?_; rotate_right; intro w2 hown2 hg2))
 case c1 => omega
 case c2 => rw [hz2]; omega
 case c3 => omega
 case d1 => simp
 case d2 => exact (hr.keptNo ((Kept.refl No w).grown hg1 (by simp))).at_add
 case d3 => omega
 go_ret
 exact ⟨_, by simp, Nat.le_refl _, by simpa using hown2, ((Kept.refl No w).grown hg1 (by simp)).grown hg2 (by simp)⟩
set_option maxHeartbeats 400000 in
theorem byte_any (a : Option Addr) (c : Nat) (l : List UInt8) (n : Int) (w : World) (h0 : 0 ≤ n) (h1 : n ≤ 255) (hr : Row w a (B8 l)) (hn : a = none → l.length = 0 ∧ c = 0) (hl : l.length ≤ 140737000000000) :
  Calls Tryz.prog 94 #[.slice a l.length c, .int .u8 n] w (Lays w (l ++ [byteOf n])) := by
 obtain ⟨i0, hi, hz0, hz1, hz2⟩ := info_parts info_u8
 go_enter Tryz.func94, Tryz.ntmps94
 go_wp2_with (first
  | (go_at_call 119; refine (grown_any a c l 1 _ (by omega) hr hn (by omega)).mono ?_; rintro e w1 ⟨g, rfl, hg, hown1, hk1⟩)
  | (at_builtin; refine wpList_append_fits_any _ rfl _ _ _ rfl w.heap.size 5 i0 1 Tryz.underlying25 hi hz1 _ _ _ _ rfl (hown1.alloc _) (some ⟨w1.heap.size, 0, none⟩) 1 1 (B8 [byteOf n]) rfl ?d1 (by simp) ?d3 (B8_one _) ?d4 ?_; rotate_right; intro w2 hown2 hg2))
 case d1 => simp
 case d3 => exact new_of (by repeat (first | rfl | rw [B8_cons (by omega) (by omega)]))
 case d4 => simp
 go_ret
 exact lays_of hown2 (by simp) (by simp [B8_append]) (by simp) ((hk1.alloc _).grown hg2 (by rintro k ⟨⟩; exact .inl hg))
set_option maxHeartbeats 400000 in
theorem two_any (a : Option Addr) (c : Nat) (l : List UInt8) (n : Int) (w : World) (h0 : 0 ≤ n) (h1 : n ≤ 65535) (hr : Row w a (B8 l)) (hn : a = none → l.length = 0 ∧ c = 0) (hl : l.length ≤ 140737000000000) :
  Calls Tryz.prog 137 #[.slice a l.length c, .int .u16 n] w (Lays w (l ++ [byteOf (n / 256), byteOf (n % 256)])) := by
 obtain ⟨i0, hi, hz0, hz1, hz2⟩ := info_parts info_u8
 go_enter Tryz.func137, Tryz.ntmps137
 go_wp2_with (first
  | (go_at_call 119; refine (grown_any a c l 2 _ (by omega) hr hn (by omega)).mono ?_; rintro e w1 ⟨g, rfl, hg, hown1, hk1⟩)
  | (at_builtin; refine wpList_append_fits_any _ rfl _ _ _ rfl w.heap.size 5 i0 1 Tryz.underlying25 hi hz1 _ _ _ _ rfl (hown1.alloc _) (some ⟨w1.heap.size, 0, none⟩) 2 2 (B8 [byteOf (n / 256), byteOf (n % 256)]) rfl ?d1 (by simp) ?d3 (B8_one _) ?d4 ?_; rotate_right; intro w2 hown2 hg2))
 case d1 => simp
 case d3 => exact new_of (by repeat (first | rfl | rw [B8_cons (by omega) (by omega)]))
 case d4 => simp
 go_ret
 exact lays_of hown2 (by simp) (by simp [B8_append]) (by simp) ((hk1.alloc _).grown hg2 (by rintro k ⟨⟩; exact .inl hg))
set_option maxHeartbeats 400000 in
theorem four_any (a : Option Addr) (c : Nat) (l : List UInt8) (n : Int) (w : World) (h0 : 0 ≤ n) (h1 : n ≤ 4294967295) (hr : Row w a (B8 l)) (hn : a = none → l.length = 0 ∧ c = 0) (hl : l.length ≤ 140737000000000) :
  Calls Tryz.prog 194 #[.slice a l.length c, .int .u32 n] w (Lays w (l ++ [byteOf (n / 16777216), byteOf (n / 65536 % 256), byteOf (n / 256 % 256), byteOf (n % 256)])) := by
 obtain ⟨i0, hi, hz0, hz1, hz2⟩ := info_parts info_u8
 go_enter Tryz.func194, Tryz.ntmps194
 go_wp2_with (first
  | (go_at_call 119; refine (grown_any a c l 4 _ (by omega) hr hn (by omega)).mono ?_; rintro e w1 ⟨g, rfl, hg, hown1, hk1⟩)
  | (at_builtin; refine wpList_append_fits_any _ rfl _ _ _ rfl w.heap.size 5 i0 1 Tryz.underlying25 hi hz1 _ _ _ _ rfl (hown1.alloc _) (some ⟨w1.heap.size, 0, none⟩) 4 4 (B8 [byteOf (n / 16777216), byteOf (n / 65536 % 256), byteOf (n / 256 % 256), byteOf (n % 256)]) rfl ?d1 (by simp) ?d3 (B8_one _) ?d4 ?_; rotate_right; intro w2 hown2 hg2))
 case d1 => simp
 case d3 => exact new_of (by repeat (first | rfl | rw [B8_cons (by omega) (by omega)]))
 case d4 => simp
 go_ret
 exact lays_of hown2 (by simp) (by simp [B8_append]) (by simp) ((hk1.alloc _).grown hg2 (by rintro k ⟨⟩; exact .inl hg))
theorem varsize_any (n : Int) (w : World) (h0 : 0 ≤ n) (h1 : n < 4294967296) :
  Calls Tryz.prog 48 #[.int .u32 n] w fun e w' =>
   e = .returned (.int .i64 (if n < 128 then 1 else if n < 16384 then 2 else if n < 2097152 then 3 else if n < 268435456 then 4 else 0)) ∧ w = w' := by
 rcases (show n < 128 ∨ (128 ≤ n ∧ n < 16384) ∨ (16384 ≤ n ∧ n < 2097152) ∨ (2097152 ≤ n ∧ n < 268435456) ∨ 268435456 ≤ n from by omega) with h | ⟨h, h'⟩ | ⟨h, h'⟩ | ⟨h, h'⟩ | h
 all_goals
  go_enter Tryz.func48, Tryz.ntmps48
  go_wp2
  refine wp_loop_rounds 5 ?_
  repeat (rw [rounds_succ]; go_wp2)
  go_ret
  refine ⟨?_, rfl⟩
  congr 2
  repeat (first | rw [if_pos (by omega)] | rw [if_neg (by omega)])
set_option maxHeartbeats 400000 in
theorem bin_any (a : Option Addr) (c : Nat) (l : List UInt8) (s : ByteArray) (w : World) (h1 : s.size ≤ 65535) (hr : Row w a (B8 l)) (hn : a = none → l.length = 0 ∧ c = 0) (hl : l.length ≤ 140737000000000) :
  Calls Tryz.prog 170 #[.slice a l.length c, .string s] w (Lays w (l ++ byteOf (s.size / 256) :: byteOf (s.size % 256) :: s.data.toList)) := by
 obtain ⟨i0, hi, hz0, hz1, hz2⟩ := info_parts info_u8
 have hm : maxLen = 9223372036854775807 := rfl
 go_enter Tryz.func170, Tryz.ntmps170
 go_wp2_with (first
  | (go_at_call 119; refine (grown_any a c l (2 + s.size) _ (by omega) hr hn (by omega)).mono ?_; rintro e w1 ⟨g, rfl, hg, hown1, hk1⟩)
  | (at_builtin; refine wpList_append_fits_any _ rfl (.tmp 17) (.tmp 23) _ rfl w.heap.size 5 i0 1 Tryz.underlying25 hi hz1 _ _ _ _ rfl (hown1.alloc _) (some ⟨w1.heap.size, 0, none⟩) 2 2 (B8 [byteOf (s.size / 256), byteOf (s.size % 256)]) rfl ?d1 (by simp) ?d3 (B8_one _) ?d4 ?_; rotate_right; intro w2 hown2 hg2)
  | (at_builtin; refine Lib.wpList_append_own_string _ rfl _ _ _ _ rfl w.heap.size 5 i0 Tryz.underlying25 Tryz.underlying9 hi hz0 hz1 hz2 _ _ _ rfl hown2 s rfl ?f1 ?f2 ?f3 ?_; rotate_right; intro v3 w3 hown3 hg3 _))
 case d1 => simp
 case d3 => exact new_of (by repeat (first | rfl | rw [B8_cons (by omega) (by omega)]))
 case d4 => omega
 case f1 => omega
 case f2 => omega
 case f3 => exact Nat.le_trans hk1.size (Nat.le_trans (by simp) hg2.size)
 go_ret
 have hk2 := (hk1.alloc (.cells #[.int .u8 (s.size / 256), .int .u8 (s.size % 256)] 5)).grown hg2 (by rintro k ⟨⟩; exact .inl hg)
 exact lays_of hown3 (by simp; omega) (by simp [B8_append, B8, Lib.strCells]) (by simp; omega) (hk2.grown hg3 (own_no hown2))
def var7 (n : Nat) : List UInt8 := if n < 128 then [byteOf n] else byteOf ((n : Int) % 128 + 128) :: var7 (n / 128)
termination_by n
decreasing_by omega
theorem var7_lt {n : Nat} (h : n < 128) : var7 n = [byteOf n] := by rw [var7, if_pos h]
theorem var7_ge {n : Nat} (h : ¬ n < 128) : var7 n = byteOf ((n : Int) % 128 + 128) :: var7 (n / 128) := by rw [var7, if_neg h]
set_option maxRecDepth 100000 in
set_option maxHeartbeats 400000 in
theorem var_any (a : Option Addr) (c : Nat) (l : List UInt8) (n : Nat) (w : World) (h1 : n ≤ 268435455) (hr : Row w a (B8 l)) (hn : a = none → l.length = 0 ∧ c = 0) (hl : l.length ≤ 140737000000000) :
  Calls Tryz.prog 95 #[.slice a l.length c, .int .u32 n] w (Lays w (l ++ var7 n)) := by
 obtain ⟨i0, hi, hz0, hz1, hz2⟩ := info_parts info_u8
 have hm : maxLen = 9223372036854775807 := rfl
 have hv := varsize_any (n : Int) w (by omega) (by omega)
 obtain ⟨z, hz, hz'⟩ : ∃ z : Nat, z ≤ 4 ∧ (if (n : Int) < 128 then 1 else if (n : Int) < 16384 then 2 else if (n : Int) < 2097152 then 3 else if (n : Int) < 268435456 then 4 else 0) = (z : Int) := by
  repeat' split
  ·exact ⟨1, by omega, rfl⟩
  ·exact ⟨2, by omega, rfl⟩
  ·exact ⟨3, by omega, rfl⟩
  ·exact ⟨4, by omega, rfl⟩
  ·exact ⟨0, by omega, rfl⟩
 rw [hz'] at hv
 have H := Lib.hid hv
 clear hv hz'
 go_enter Tryz.func95, Tryz.ntmps95
 go_wp2_with (first
  | (go_at_call 48; refine H.out.mono ?_; rintro e w1 ⟨rfl, rfl⟩)
  | (go_at_call 119; refine (grown_any a c l z _ (by omega) hr hn (by omega)).mono ?_; rintro e w1 ⟨g, rfl, hg, hown1, hk1⟩))
 clear H
 go_loopw [1, 5] (fun m v wr => ∃ (x : Nat) (p : List UInt8), m = .int .u32 x ∧ x ≤ n ∧ p ++ var7 x = var7 n ∧ wr.ownsRow w.heap.size 5 1 v (l ++ p).length (B8 (l ++ p)) ∧ Kept No w wr ∧ p.length + x ≤ n) (fun m _ _ => (intOf m).toNat)
 case atStart => exact ⟨n, [], rfl, by omega, rfl, by simpa using hown1, hk1, by simp⟩
 case round =>
  obtain ⟨x, p, rfl, hx, hp, hown, hk, hpl⟩ := hrel
  have HP := Lib.hid hp
  clear hp hown1 hk1 hg
  have hsz := hk.size
  by_cases hlt : x < 128
  ·go_wp2_with (at_builtin; refine wpList_append_own _ rfl _ _ _ rfl w.heap.size 5 i0 _ 1 1 Tryz.underlying25 hi hz0 hz1 hz2 rfl (by decide) _ _ _ rfl (hown.alloc _) ⟨wr.heap.size, 0, none⟩ 1 1 (B8 [byteOf x]) rfl rfl ?c1 (B8_one _) ?c2 ?c3 ?c4 ?_; rotate_right; intro v2 w2 hown2 hg2 _)
   case c1 => exact new_at (by rw [B8_cons (by omega) (by omega)]; rfl)
   case c2 => simp; omega
   case c3 => simp; omega
   case c4 => simp; omega
   go_ret
   refine lays_of hown2 (by rw [← HP.out, var7_lt hlt]; simp; omega) (by rw [← HP.out, var7_lt hlt]; simp [B8_append, B8]) (by rw [← HP.out, var7_lt hlt]; simp; omega) ((hk.alloc _).grown hg2 (own_no hown))
  ·go_wp2_with (at_builtin; refine wpList_append_own _ rfl _ _ _ rfl w.heap.size 5 i0 _ 1 1 Tryz.underlying25 hi hz0 hz1 hz2 rfl (by decide) _ _ _ rfl (hown.alloc _) ⟨wr.heap.size, 0, none⟩ 1 1 (B8 [byteOf ((x : Int) % 128 + 128)]) rfl rfl ?c1b (B8_one _) ?c2b ?c3b ?c4b ?_; rotate_right; intro v2 w2 hown2 hg2 _)
   case c1b => exact new_at (by rw [B8_cons (by omega) (by omega)]; rfl)
   case c2b => simp; omega
   case c3b => simp; omega
   case c4b => simp; omega
   go_roundw
   case rel => exact ⟨x / 128, p ++ [byteOf ((x : Int) % 128 + 128)], by go_num, by omega, by rw [← HP.out, var7_ge hlt]; simp, by simpa [B8_append, List.append_assoc, Nat.add_assoc] using hown2, (hk.alloc _).grown hg2 (own_no hown), by simp; omega⟩
   case measure => simp [intOf]; omega
theorem var_great (a : Option Addr) (c : Nat) (l : List UInt8) (n : Nat) (w : World) (h1 : 268435455 < n) (h2 : n < 4294967296) (hr : Row w a (B8 l)) (hn : a = none → l.length = 0 ∧ c = 0) (hl : l.length ≤ 140737000000000) :
  Calls Tryz.prog 95 #[.slice a l.length c, .int .u32 n] w (Lays w l) := by
 have hv := varsize_any (n : Int) w (by omega) (by omega)
 have e : (if (n : Int) < 128 then 1 else if (n : Int) < 16384 then 2 else if (n : Int) < 2097152 then 3 else if (n : Int) < 268435456 then 4 else 0) = (0 : Int) := by
  repeat rw [if_neg (by omega)]
 rw [e] at hv
 have H := Lib.hid hv
 clear hv e
 go_enter Tryz.func95, Tryz.ntmps95
 go_wp2_with (first
  | (go_at_call 48; refine H.out.mono ?_; rintro e w1 ⟨rfl, rfl⟩)
  | (go_at_call 119; refine (grown_any a c l 0 _ (by omega) hr hn (by omega)).mono ?_; rintro e w1 ⟨g, rfl, hg, hown1, hk1⟩))
 go_ret
 exact ⟨g, _, rfl, hg, hown1, hk1⟩
theorem row_str {P : Program} {w : World} (src dst e : TypeId) (hs : P.underlying src = some (.slice e)) (he : P.underlying e = some (.int .u8)) (hd : P.underlying dst = some .string)
  {a : Option Addr} {l : List UInt8} (h : Row w a (B8 l)) (cap : Nat) (hn : a = none → cap = 0) : (convert src dst (.slice a l.length cap)).run P w = .ok (.string ⟨l.toArray⟩) w := by
 cases a with
 | none =>
  obtain rfl := hn rfl
  rcases h with h | ⟨b, off, h, _⟩
  ·obtain rfl : l = [] := by cases l <;> simp_all [B8]
   exact Lib.run_convert_nil_bytes w src dst e 0 hs he hd
  ·cases h
 | some ad => exact run_convert_bytes_back w src dst e ad cap l hs he hd fun j hj => h.at_add ad rfl j _ (B8_get l j hj)
def Typ (w : World) (a : Option Addr) (l : List UInt8) : Prop := ∀ b off, a = some ⟨b, off, none⟩ → l ≠ [] → ∃ cs fz, w.heap[b]? = some (.cells cs 5 fz)
theorem Typ.nil (w : World) (a : Option Addr) : Typ w a [] := fun _ _ _ h => absurd rfl h
theorem Typ.kept {w w' : World} {S : Nat → Prop} {a : Option Addr} {l : List UInt8} (h : Typ w a l) (hk : Kept S w w') (hS : ∀ b off, a = some ⟨b, off, none⟩ → l ≠ [] → ¬ S b) : Typ w' a l := by
 intro b off ha hl
 obtain ⟨cs, fz, hb⟩ := h b off ha hl
 exact ⟨cs, fz, (hk.block b (Array.getElem?_eq_some_iff.1 hb).1 (hS b off ha hl)).trans hb⟩
def Rdr (w : World) (r : Nat) (l : List UInt8) (err : Int) : Prop :=
 ∃ a c, Blk w r 163 #[.slice a l.length c, .int .i64 err] ∧ l.length ≤ c ∧ (a = none → c = 0) ∧ Row w a (B8 l) ∧ l.length ≤ 140737000000000 ∧ (err ≠ 0 → l = []) ∧ Typ w a l
theorem Rdr.lt {w : World} {r : Nat} {l : List UInt8} {err : Int} (h : Rdr w r l err) : r < w.heap.size := by obtain ⟨a, c, hb, _⟩ := h; exact hb.lt
def NoByte (w : World) (b : Nat) : Prop := ∀ off n, w.cell? ⟨b, off, none⟩ ≠ some (.int .u8 n)
theorem NoByte.two {w : World} {b : Nat} {t : TypeId} {x y : Value} (hb : Blk w b t #[x, y]) (hx : ∀ n, x ≠ .int .u8 n) (hy : ∀ n, y ≠ .int .u8 n) : NoByte w b := by
 intro off n h
 rw [hb.cell] at h
 match off, h with
 | 0, h => exact hx _ (by simpa using h)
 | 1, h => exact hy _ (by simpa using h)
 | k + 2, h => simp at h
theorem NoByte.three {w : World} {b : Nat} {t : TypeId} {x y z : Value} (hb : Blk w b t #[x, y, z]) (hx : ∀ n, x ≠ .int .u8 n) (hy : ∀ n, y ≠ .int .u8 n) (hz : ∀ n, z ≠ .int .u8 n) : NoByte w b := by
 intro off n h
 rw [hb.cell] at h
 match off, h with
 | 0, h => exact hx _ (by simpa using h)
 | 1, h => exact hy _ (by simpa using h)
 | 2, h => exact hz _ (by simpa using h)
 | k + 3, h => simp at h
theorem row_nobyte {w w' : World} {S : Nat → Prop} {a : Option Addr} {l : List UInt8} (h : Row w a (B8 l)) (hk : Kept S w w') (hs : ∀ b, S b → b < w.heap.size → NoByte w b) : Row w' a (B8 l) := by
 refine h.kept hk fun b off ha hne hS => ?_
 rcases h with h | ⟨b', off', he, hlt, hc⟩
 ·exact hne h
 ·rw [ha] at he
  injection he with he
  injection he with e1 e2
  subst e1 e2
  cases l with
  | nil => exact hne rfl
  | cons u l => exact hs b hS hlt off _ (hc 0 _ rfl)
theorem row_notS {w : World} {S : Nat → Prop} {a : Option Addr} {l : List UInt8} (h : Row w a (B8 l)) (hs : ∀ b, S b → b < w.heap.size → NoByte w b) : ∀ b off, a = some ⟨b, off, none⟩ → l ≠ [] → ¬ S b := by
 intro b off ha hl hS
 rcases h with h | ⟨b', off', he, hlt, hc⟩
 ·cases l with
  | nil => exact hl rfl
  | cons u l => simp [B8] at h
 ·rw [ha] at he
  injection he with he
  injection he with e1 e2
  subst e1 e2
  cases l with
  | nil => exact hl rfl
  | cons u l => exact hs b hS hlt off _ (hc 0 _ rfl)
theorem Rdr.kept {w w' : World} {S : Nat → Prop} {r : Nat} {l : List UInt8} {err : Int} (h : Rdr w r l err) (hk : Kept S w w') (hr : ¬ S r) (hs : ∀ b, S b → b < w.heap.size → NoByte w b) : Rdr w' r l err := by
 obtain ⟨a, c, hb, h1, h2, h3, h4, h5, h6⟩ := h
 exact ⟨a, c, hb.kept hk hr, h1, h2, row_nobyte h3 hk hs, h4, h5, h6.kept hk (row_notS h3 hs)⟩
theorem Rdr.keptTyp {w w' : World} {S : Nat → Prop} {r : Nat} {l : List UInt8} {err : Int} (h : Rdr w r l err) (hk : Kept S w w') (hr : ¬ S r) (hs : ∀ b, S b → ∀ cs fz, w.heap[b]? ≠ some (.cells cs 5 fz)) : Rdr w' r l err := by
 obtain ⟨a, c, hb, h1, h2, h3, h4, h5, h6⟩ := h
 have hn : ∀ b off, a = some ⟨b, off, none⟩ → l ≠ [] → ¬ S b := fun b off ha hl hS => by
  obtain ⟨cs, fz, hx⟩ := h6 b off ha hl
  exact hs b hS cs fz hx
 exact ⟨a, c, hb.kept hk hr, h1, h2, h3.kept hk (fun b off ha hx => hn b off ha (fun e => hx (by rw [e]; rfl))), h4, h5, h6.kept hk hn⟩
theorem Rdr.setOther {w : World} {r : Nat} {l : List UInt8} {err : Int} (h : Rdr w r l err) {q i : Nat} {t : TypeId} {cs : Array Value} (hq : Blk w q t cs) (ht : t ≠ 5) (hr : r ≠ q) (u : Value) : Rdr (w.setCell ⟨q, i, none⟩ u) r l err :=
 h.keptTyp ((Kept.refl (One q) w).setCell (p := ⟨q, i, none⟩) (.inr rfl) u) hr (fun b hb cs' fz hx => by
  obtain rfl : b = q := hb
  unfold Blk at hq
  rw [hq] at hx
  injection hx with hx
  injection hx with _ h2 _
  exact ht h2)
theorem Rdr.noByte {w : World} {r : Nat} {l : List UInt8} {err : Int} (h : Rdr w r l err) : NoByte w r := by
 obtain ⟨a, c, hb, _⟩ := h
 exact NoByte.two hb (by simp) (by simp)
theorem Rdr.keptNo {w w' : World} {r : Nat} {l : List UInt8} {err : Int} (h : Rdr w r l err) (hk : Kept No w w') : Rdr w' r l err := h.kept hk (fun f => f) (fun _ f => f.elim)
theorem Rdr.cells {w : World} {r : Nat} {l : List UInt8} {err : Int} (h : Rdr w r l err) :
  ∃ a c, w.cell? ⟨r, 0, none⟩ = some (.slice a l.length c) ∧ w.cell? ⟨r, 1, none⟩ = some (.int .i64 err) ∧ w.frozen? ⟨r, 0, none⟩ = false ∧ w.frozen? ⟨r, 1, none⟩ = false := by
 obtain ⟨a, c, hb, _⟩ := h
 exact ⟨a, c, by rw [hb.cell]; rfl, by rw [hb.cell]; rfl, hb.frozen 0, hb.frozen 1⟩
theorem Rdr.far {w : World} {r s : Nat} {l : List UInt8} {err : Int} (h : Rdr w r l err) {l' : List UInt8} {err' : Int} (hs : Rdr w s l' err') (hne : r ≠ s) (p : Addr) (hp : p.block = s) (v : Value) : Rdr (w.setCell p v) r l err :=
 h.kept ((Kept.refl (One s) w).setCell (.inr hp) _) hne fun b hb _ => by
  obtain rfl : b = s := hb
  exact hs.noByte
structure After (w w' : World) (r : Nat) (l : List UInt8) (err : Int) : Prop where
 rdr : Rdr w' r l err
 kept : Kept (One r) w w'
def RefR (w : World) (r : Nat) (B : ByteArray) (l : List UInt8) (err : Int) : Prop :=
 ∃ at_ : Nat, Blk w r 122 #[.string B, .int .i64 at_, .int .i64 err] ∧ at_ ≤ B.size ∧ B.size ≤ 140737000000000 ∧ (err = 0 → l = B.data.toList.drop at_) ∧ (err ≠ 0 → l = [])
theorem RefR.lt {w : World} {r : Nat} {B : ByteArray} {l : List UInt8} {err : Int} (h : RefR w r B l err) : r < w.heap.size := by obtain ⟨a, hb, _⟩ := h; exact hb.lt
theorem RefR.kept {w w' : World} {S : Nat → Prop} {r : Nat} {B : ByteArray} {l : List UInt8} {err : Int} (h : RefR w r B l err) (hk : Kept S w w') (hr : ¬ S r) : RefR w' r B l err := by
 obtain ⟨a, hb, h2⟩ := h
 exact ⟨a, hb.kept hk hr, h2⟩
theorem RefR.noByte {w : World} {r : Nat} {B : ByteArray} {l : List UInt8} {err : Int} (h : RefR w r B l err) : NoByte w r := by
 obtain ⟨a, hb, _⟩ := h
 exact NoByte.three hb (by simp) (by simp) (by simp)
structure RAfter (w w' : World) (r : Nat) (B : ByteArray) (l : List UInt8) (err : Int) : Prop where
 rdr : RefR w' r B l err
 kept : Kept (One r) w w'
theorem size_list (B : ByteArray) : B.data.toList.length = B.size := by rw [Array.length_toList]; rfl
theorem RefR.cells {w : World} {r : Nat} {B : ByteArray} {l : List UInt8} {err : Int} (h : RefR w r B l err) :
  ∃ a : Nat, w.cell? ⟨r, 0, none⟩ = some (.string B) ∧ w.cell? ⟨r, 1, none⟩ = some (.int .i64 a) ∧ w.cell? ⟨r, 2, none⟩ = some (.int .i64 err) := by
 obtain ⟨a, hb, _⟩ := h
 exact ⟨a, by rw [hb.cell]; rfl, by rw [hb.cell]; rfl, by rw [hb.cell]; rfl⟩
theorem RefR.on {w : World} {r : Nat} {B : ByteArray} {at_ : Nat} (hb : Blk w r 122 #[.string B, .int .i64 at_, .int .i64 0]) (h2 : B.size ≤ 140737000000000) (n k : Nat) (hk : at_ + k ≤ B.size) (x : Int) (hx : x = (at_ + k : Nat)) :
  RAfter w ((w.drewN n).setCell ⟨r, 1, none⟩ (.int .i64 x)) r B ((B.data.toList.drop at_).drop k) 0 := by
 subst hx
 exact ⟨⟨at_ + k, hb.set2 _ _ _ (by simp), hk, h2, fun _ => by rw [List.drop_drop], fun h => absurd rfl h⟩, ((Kept.refl (One r) w).drewN n).setCell (p := ⟨r, 1, none⟩) (.inr rfl) _⟩
theorem var7_len (n : Nat) (h : n ≤ 268435455) : (if (n : Int) < 128 then 1 else if (n : Int) < 16384 then 2 else if (n : Int) < 2097152 then 3 else if (n : Int) < 268435456 then 4 else 0) = ((var7 n).length : Int) := by
 rcases (show n < 128 ∨ (128 ≤ n ∧ n < 16384) ∨ (16384 ≤ n ∧ n < 2097152) ∨ (2097152 ≤ n ∧ n < 268435456) from by omega) with h | ⟨h, h'⟩ | ⟨h, h'⟩ | ⟨h, h'⟩
 ·rw [if_pos (by omega), var7_lt h]; rfl
 ·rw [if_neg (by omega), if_pos (by omega), var7_ge (by omega), var7_lt (by omega)]; rfl
 ·rw [if_neg (by omega), if_neg (by omega), if_pos (by omega), var7_ge (by omega), var7_ge (by omega), var7_lt (by omega)]; rfl
 ·rw [if_neg (by omega), if_neg (by omega), if_neg (by omega), if_pos (by omega), var7_ge (by omega), var7_ge (by omega), var7_ge (by omega), var7_lt (by omega)]; rfl
def varL (n : Nat) : List UInt8 := if n ≤ 268435455 then var7 n else []
theorem varL_var (n : Nat) (h : n < 4294967296) (w : World) : Calls Tryz.prog 95 #[.slice none 0 0, .int .u32 n] w (Lays w (varL n)) := by
 unfold varL
 by_cases h1 : n ≤ 268435455
 ·rw [if_pos h1]; exact var_any none 0 [] n w h1 (Row.nil _ _) (fun _ => ⟨rfl, rfl⟩) (by simp)
 ·rw [if_neg h1]; exact var_great none 0 [] n w (by omega) h (Row.nil _ _) (fun _ => ⟨rfl, rfl⟩) (by simp)
theorem varL_size (n : Nat) (h : n < 4294967296) (w : World) : Calls Tryz.prog 48 #[.int .u32 n] w fun e w' => e = .returned (.int .i64 (varL n).length) ∧ w = w' := by
 have h2 := varsize_any n w (by omega) (by omega)
 unfold varL
 by_cases h1 : n ≤ 268435455
 ·rw [var7_len n h1] at h2; rw [if_pos h1]; exact h2
 ·rw [if_neg h1]
  have e : (if (n : Int) < 128 then 1 else if (n : Int) < 16384 then 2 else if (n : Int) < 2097152 then 3 else if (n : Int) < 268435456 then 4 else 0) = (0 : Int) := by
   repeat rw [if_neg (by omega)]
  rw [e] at h2; exact h2
theorem str_at {w : World} {a : Option Addr} {l : List UInt8} {m : Nat} (hm : Hid (l.length = m)) (h : Row w a (B8 l)) (cap : Nat) (hn : a = none → cap = 0) :
  (convert 25 9 (.slice a m cap)).run Tryz.prog w = .ok (.string ⟨l.toArray⟩) w := by
 have h1 := hm.out
 subst h1
 exact row_str _ _ _ Tryz.underlying25 Tryz.underlying5 Tryz.underlying9 h cap hn
def be : Nat → Nat → List UInt8
 | 0, _ => []
 | k + 1, n => byteOf (((n / 256 ^ k : Nat) : Int) % 256) :: be k n
def addByte (l : List UInt8) (x : Nat) : List UInt8 := l ++ [byteOf ((x : Int) % 256)]
def addTwo (l : List UInt8) (x : Nat) : List UInt8 := l ++ [byteOf ((x : Int) % 65536 / 256), byteOf ((x : Int) % 65536 % 256)]
def addFour (l : List UInt8) (x : Nat) : List UInt8 := l ++ [byteOf ((x : Int) / 16777216), byteOf ((x : Int) / 65536 % 256), byteOf ((x : Int) / 256 % 256), byteOf ((x : Int) % 256)]
def addVar (l : List UInt8) (x : Nat) : List UInt8 := l ++ varL x
def addBin (l : List UInt8) (s : ByteArray) : List UInt8 := l ++ (byteOf ((s.size : Int) / 256) :: byteOf ((s.size : Int) % 256) :: s.data.toList)
theorem byteX (a : Option Addr) (c : Nat) (l : List UInt8) (x : Nat) (w : World) (hr : Row w a (B8 l)) (hn : a = none → l.length = 0 ∧ c = 0) (hl : l.length ≤ 100000) :
  Calls Tryz.prog 94 #[.slice a l.length c, .int .u8 ((x : Int) % 256)] w (Lays w (addByte l x)) := byte_any a c l _ w (by omega) (by omega) hr hn (by omega)
theorem twoX (a : Option Addr) (c : Nat) (l : List UInt8) (x : Nat) (w : World) (hr : Row w a (B8 l)) (hn : a = none → l.length = 0 ∧ c = 0) (hl : l.length ≤ 100000) :
  Calls Tryz.prog 137 #[.slice a l.length c, .int .u16 ((x : Int) % 65536)] w (Lays w (addTwo l x)) := two_any a c l _ w (by omega) (by omega) hr hn (by omega)
theorem fourX (a : Option Addr) (c : Nat) (l : List UInt8) (x : Nat) (w : World) (hx : x ≤ 4294967295) (hr : Row w a (B8 l)) (hn : a = none → l.length = 0 ∧ c = 0) (hl : l.length ≤ 100000) :
  Calls Tryz.prog 194 #[.slice a l.length c, .int .u32 x] w (Lays w (addFour l x)) := four_any a c l _ w (by omega) (by omega) hr hn (by omega)
theorem varX (a : Option Addr) (c : Nat) (l : List UInt8) (x : Nat) (w : World) (hx : x ≤ 4294967295) (hr : Row w a (B8 l)) (hn : a = none → l.length = 0 ∧ c = 0) (hl : l.length ≤ 100000) :
  Calls Tryz.prog 95 #[.slice a l.length c, .int .u32 x] w (Lays w (addVar l x)) := by
 unfold addVar varL
 by_cases h : x ≤ 268435455
 ·rw [if_pos h]; exact var_any a c l x w h hr hn (by omega)
 ·rw [if_neg h, List.append_nil]; exact var_great a c l x w (by omega) (by omega) hr hn (by omega)
theorem binX (a : Option Addr) (c : Nat) (l : List UInt8) (s : ByteArray) (w : World) (hs : s.size ≤ 65535) (hr : Row w a (B8 l)) (hn : a = none → l.length = 0 ∧ c = 0) (hl : l.length ≤ 100000) :
  Calls Tryz.prog 170 #[.slice a l.length c, .string s] w (Lays w (addBin l s)) := bin_any a c l s w hs hr hn (by omega)
end Go.Proofs.YtomppebamfpimaaGreatDoor
