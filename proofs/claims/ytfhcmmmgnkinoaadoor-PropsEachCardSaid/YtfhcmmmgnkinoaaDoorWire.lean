/-
  Contracts of package wire: what is laid.
-/
import Derived.Test.YtfhcmmmgnkinoaaDoorChecked
import Derived.Test.YtfhcmmmgnkinoaaDoorBase
namespace Go.Proofs.YtfhcmmmgnkinoaaDoor
open Go.RowKit
set_option linter.unusedVariables false
set_option linter.unusedSimpArgs false
set_option maxRecDepth 100000

theorem info_u8 : (Tryd.prog.info? 5).map (fun i => (i.zero, i.size, i.bytes)) = some (some (.int .u8 0), 1, 1) := by kernel_rfl

/-- What a call that lays bytes answers: new memory, that holds just these. -/
def Lays (w : World) (l : List UInt8) (e : Ending) (w' : World) : Prop :=
  ∃ g cap, e = .returned (.slice (some ⟨g, 0, none⟩) l.length cap) ∧ w.heap.size ≤ g ∧ w'.ownsRow w.heap.size 5 1 (.slice (some ⟨g, 0, none⟩) l.length cap) l.length (B8 l) ∧ Kept No w w'
theorem lays_not {w w' : World} {v : Value} {l : List UInt8} {n : Nat} {xs : List Value} (h : w'.ownsRow w.heap.size 5 1 v n xs) (hn : n = l.length) (hx : xs = B8 l) (h0 : v ≠ .slice none 0 0) (hk : Kept No w w') : Lays w l (.returned v) w' := by
  subst hn hx
  rcases h.2 with ⟨hv, _⟩ | ⟨g, cap, cur, hv, hg, _⟩
  · exact absurd hv h0
  · subst hv; exact ⟨g, cap, rfl, hg, h, hk⟩
theorem lays_of {w w' : World} {v : Value} {l : List UInt8} {n : Nat} {xs : List Value} (h : w'.ownsRow w.heap.size 5 1 v n xs) (hn : n = l.length) (hx : xs = B8 l) (h0 : 0 < l.length) (hk : Kept No w w') : Lays w l (.returned v) w' := by
  subst hn hx
  obtain ⟨g, cap, hv, hg, _⟩ := h.form h0
  subst hv
  exact ⟨g, cap, rfl, hg, h, hk⟩

set_option maxHeartbeats 400000 in
theorem grown_any (a : Option Addr) (c : Nat) (l : List UInt8) (room : Int) (w : World) (h0 : 0 ≤ room) (hr : Row w a (B8 l)) (hn : a = none → l.length = 0 ∧ c = 0) (hl : l.length + room ≤ 140737488355328) :
    Calls Tryd.prog 52 #[.slice a l.length c, .int .i64 room] w fun e w' =>
      ∃ g, e = .returned (.slice (some ⟨g, 0, none⟩) l.length (l.length + room.toNat)) ∧ w.heap.size ≤ g ∧ w'.ownsRow w.heap.size 5 1 (.slice (some ⟨g, 0, none⟩) l.length (l.length + room.toNat)) l.length (B8 l) ∧ Kept No w w' := by
  obtain ⟨i0, hi, hz0, hz1, hz2⟩ := info_parts info_u8
  have hm : maxLen = 9223372036854775807 := rfl
  obtain ⟨room, rfl⟩ := Int.eq_ofNat_of_zero_le h0
  rw [Int.toNat_natCast]
  go_enter Tryd.func52, Tryd.ntmps52
  go_wp2_with (first
    | (at_make; refine wpList_make_own _ rfl _ _ _ rfl w.heap.size 5 i0 _ 1 Tryd.underlying25 hi hz0 hz1 .i64 .i64 _ (l.length + room) rfl rfl ?c1 ?c2 ?c3 (Nat.le_refl _) ?_; rotate_right; intro w1 hown1 hg1)
    | (at_builtin; refine wpList_append_fits_any _ rfl _ _ _ rfl w.heap.size 5 i0 1 Tryd.underlying25 hi hz1 _ 0 _ [] rfl hown1 a l.length c (B8 l) rfl ?d1 hn ?d2 (B8_one l) ?d3 ?_; rotate_right; intro w2 hown2 hg2))
  case c1 => omega
  case c2 => rw [hz2]; omega
  case c3 => omega
  case d1 => simp
  case d2 => exact (hr.keptNo ((Kept.refl No w).grown hg1 (by simp))).at_add
  case d3 => omega
  go_ret
  exact ⟨_, by simp, Nat.le_refl _, by simpa using hown2, ((Kept.refl No w).grown hg1 (by simp)).grown hg2 (by simp)⟩

set_option maxHeartbeats 400000 in
theorem byte_any (a : Option Addr) (c : Nat) (l : List UInt8) (n : Int) (w : World) (h0 : 0 ≤ n) (h1 : n ≤ 255) (hr : Row w a (B8 l)) (hn : a = none → l.length = 0 ∧ c = 0) (hl : l.length ≤ 140737000000000) :
    Calls Tryd.prog 81 #[.slice a l.length c, .int .u8 n] w (Lays w (l ++ [byteOf n])) := by
  obtain ⟨i0, hi, hz0, hz1, hz2⟩ := info_parts info_u8
  go_enter Tryd.func81, Tryd.ntmps81
  go_wp2_with (first
    | (go_at_call 52; refine (grown_any a c l 1 _ (by omega) hr hn (by omega)).mono ?_; rintro e w1 ⟨g, rfl, hg, hown1, hk1⟩)
    | (at_builtin; refine wpList_append_fits_any _ rfl _ _ _ rfl w.heap.size 5 i0 1 Tryd.underlying25 hi hz1 _ _ _ _ rfl (hown1.alloc _) (some ⟨w1.heap.size, 0, none⟩) 1 1 (B8 [byteOf n]) rfl ?d1 (by simp) ?d3 (B8_one _) ?d4 ?_; rotate_right; intro w2 hown2 hg2))
  case d1 => simp
  case d3 => exact new_of (by repeat (first | rfl | rw [B8_cons (by omega) (by omega)]))
  case d4 => simp
  go_ret
  exact lays_of hown2 (by simp) (by simp [B8_append]) (by simp) ((hk1.alloc _).grown hg2 (by rintro k ⟨⟩; exact .inl hg))

set_option maxHeartbeats 400000 in
theorem two_any (a : Option Addr) (c : Nat) (l : List UInt8) (n : Int) (w : World) (h0 : 0 ≤ n) (h1 : n ≤ 65535) (hr : Row w a (B8 l)) (hn : a = none → l.length = 0 ∧ c = 0) (hl : l.length ≤ 140737000000000) :
    Calls Tryd.prog 83 #[.slice a l.length c, .int .u16 n] w (Lays w (l ++ [byteOf (n / 256), byteOf (n % 256)])) := by
  obtain ⟨i0, hi, hz0, hz1, hz2⟩ := info_parts info_u8
  go_enter Tryd.func83, Tryd.ntmps83
  go_wp2_with (first
    | (go_at_call 52; refine (grown_any a c l 2 _ (by omega) hr hn (by omega)).mono ?_; rintro e w1 ⟨g, rfl, hg, hown1, hk1⟩)
    | (at_builtin; refine wpList_append_fits_any _ rfl _ _ _ rfl w.heap.size 5 i0 1 Tryd.underlying25 hi hz1 _ _ _ _ rfl (hown1.alloc _) (some ⟨w1.heap.size, 0, none⟩) 2 2 (B8 [byteOf (n / 256), byteOf (n % 256)]) rfl ?d1 (by simp) ?d3 (B8_one _) ?d4 ?_; rotate_right; intro w2 hown2 hg2))
  case d1 => simp
  case d3 => exact new_of (by repeat (first | rfl | rw [B8_cons (by omega) (by omega)]))
  case d4 => simp
  go_ret
  exact lays_of hown2 (by simp) (by simp [B8_append]) (by simp) ((hk1.alloc _).grown hg2 (by rintro k ⟨⟩; exact .inl hg))

set_option maxHeartbeats 400000 in
theorem four_any (a : Option Addr) (c : Nat) (l : List UInt8) (n : Int) (w : World) (h0 : 0 ≤ n) (h1 : n ≤ 4294967295) (hr : Row w a (B8 l)) (hn : a = none → l.length = 0 ∧ c = 0) (hl : l.length ≤ 140737000000000) :
    Calls Tryd.prog 84 #[.slice a l.length c, .int .u32 n] w (Lays w (l ++ [byteOf (n / 16777216), byteOf (n / 65536 % 256), byteOf (n / 256 % 256), byteOf (n % 256)])) := by
  obtain ⟨i0, hi, hz0, hz1, hz2⟩ := info_parts info_u8
  go_enter Tryd.func84, Tryd.ntmps84
  go_wp2_with (first
    | (go_at_call 52; refine (grown_any a c l 4 _ (by omega) hr hn (by omega)).mono ?_; rintro e w1 ⟨g, rfl, hg, hown1, hk1⟩)
    | (at_builtin; refine wpList_append_fits_any _ rfl _ _ _ rfl w.heap.size 5 i0 1 Tryd.underlying25 hi hz1 _ _ _ _ rfl (hown1.alloc _) (some ⟨w1.heap.size, 0, none⟩) 4 4 (B8 [byteOf (n / 16777216), byteOf (n / 65536 % 256), byteOf (n / 256 % 256), byteOf (n % 256)]) rfl ?d1 (by simp) ?d3 (B8_one _) ?d4 ?_; rotate_right; intro w2 hown2 hg2))
  case d1 => simp
  case d3 => exact new_of (by repeat (first | rfl | rw [B8_cons (by omega) (by omega)]))
  case d4 => simp
  go_ret
  exact lays_of hown2 (by simp) (by simp [B8_append]) (by simp) ((hk1.alloc _).grown hg2 (by rintro k ⟨⟩; exact .inl hg))

theorem varsize_any (n : Int) (w : World) (h0 : 0 ≤ n) (h1 : n < 4294967296) :
    Calls Tryd.prog 51 #[.int .u32 n] w fun e w' =>
      e = .returned (.int .i64 (if n < 128 then 1 else if n < 16384 then 2 else if n < 2097152 then 3 else if n < 268435456 then 4 else 0)) ∧ w = w' := by
  rcases (show n < 128 ∨ (128 ≤ n ∧ n < 16384) ∨ (16384 ≤ n ∧ n < 2097152) ∨ (2097152 ≤ n ∧ n < 268435456) ∨ 268435456 ≤ n from by omega) with h | ⟨h, h'⟩ | ⟨h, h'⟩ | ⟨h, h'⟩ | h
  all_goals
    go_enter Tryd.func51, Tryd.ntmps51
    go_wp2
    refine wp_loop_rounds 5 ?_
    repeat (rw [rounds_succ]; go_wp2)
    go_ret
    refine ⟨?_, rfl⟩
    congr 2
    repeat (first | rw [if_pos (by omega)] | rw [if_neg (by omega)])

set_option maxHeartbeats 400000 in
theorem bin_long (a : Option Addr) (c : Nat) (l : List UInt8) (s : ByteArray) (w : World) (h1 : 65535 < s.size) (h2 : s.size ≤ maxLen) (hr : Row w a (B8 l)) (hn : a = none → l.length = 0 ∧ c = 0) (hl : l.length ≤ 140737000000000) :
    Calls Tryd.prog 85 #[.slice a l.length c, .string s] w (Lays w l) := by
  unfold maxLen at h2
  go_enter Tryd.func85, Tryd.ntmps85
  go_wp2_with (first
    | (go_at_call 52; refine (grown_any a c l 0 _ (by omega) hr hn (by omega)).mono ?_; rintro e w1 ⟨g, rfl, hg, hown1, hk1⟩))
  go_ret
  exact ⟨g, _, rfl, hg, hown1, hk1⟩

set_option maxHeartbeats 400000 in
theorem bin_any (a : Option Addr) (c : Nat) (l : List UInt8) (s : ByteArray) (w : World) (h1 : s.size ≤ 65535) (hr : Row w a (B8 l)) (hn : a = none → l.length = 0 ∧ c = 0) (hl : l.length ≤ 140737000000000) :
    Calls Tryd.prog 85 #[.slice a l.length c, .string s] w (Lays w (l ++ byteOf (s.size / 256) :: byteOf (s.size % 256) :: s.data.toList)) := by
  obtain ⟨i0, hi, hz0, hz1, hz2⟩ := info_parts info_u8
  have hm : maxLen = 9223372036854775807 := rfl
  go_enter Tryd.func85, Tryd.ntmps85
  go_wp2_with (first
    | (go_at_call 52; refine (grown_any a c l (2 + s.size) _ (by omega) hr hn (by omega)).mono ?_; rintro e w1 ⟨g, rfl, hg, hown1, hk1⟩)
    | (at_builtin; refine wpList_append_fits_any _ rfl (.tmp 17) (.tmp 23) _ rfl w.heap.size 5 i0 1 Tryd.underlying25 hi hz1 _ _ _ _ rfl (hown1.alloc _) (some ⟨w1.heap.size, 0, none⟩) 2 2 (B8 [byteOf (s.size / 256), byteOf (s.size % 256)]) rfl ?d1 (by simp) ?d3 (B8_one _) ?d4 ?_; rotate_right; intro w2 hown2 hg2)
    | (at_builtin; refine Lib.wpList_append_own_string _ rfl _ _ _ _ rfl w.heap.size 5 i0 Tryd.underlying25 Tryd.underlying9 hi hz0 hz1 hz2 _ _ _ rfl hown2 s rfl ?f1 ?f2 ?f3 ?_; rotate_right; intro v3 w3 hown3 hg3 _))
  case d1 => simp
  case d3 => exact new_of (by repeat (first | rfl | rw [B8_cons (by omega) (by omega)]))
  case d4 => omega
  case f1 => omega
  case f2 => omega
  case f3 => exact Nat.le_trans hk1.size (Nat.le_trans (by simp) hg2.size)
  go_ret
  have hk2 := (hk1.alloc (.cells #[.int .u8 (s.size / 256), .int .u8 (s.size % 256)] 5)).grown hg2 (by rintro k ⟨⟩; exact .inl hg)
  exact lays_of hown3 (by simp; omega) (by simp [B8_append, B8, Lib.strCells]) (by simp; omega) (hk2.grown hg3 (own_no hown2))

/-- A number's digits of base 128, the lowest first. -/
def var7 (n : Nat) : List UInt8 := if n < 128 then [byteOf n] else byteOf ((n : Int) % 128 + 128) :: var7 (n / 128)
termination_by n
decreasing_by omega
theorem var7_lt {n : Nat} (h : n < 128) : var7 n = [byteOf n] := by rw [var7, if_pos h]
theorem var7_ge {n : Nat} (h : ¬ n < 128) : var7 n = byteOf ((n : Int) % 128 + 128) :: var7 (n / 128) := by rw [var7, if_neg h]

set_option maxRecDepth 100000 in
set_option maxHeartbeats 400000 in
theorem var_any (a : Option Addr) (c : Nat) (l : List UInt8) (n : Nat) (w : World) (h1 : n ≤ 268435455) (hr : Row w a (B8 l)) (hn : a = none → l.length = 0 ∧ c = 0) (hl : l.length ≤ 140737000000000) :
    Calls Tryd.prog 45 #[.slice a l.length c, .int .u32 n] w (Lays w (l ++ var7 n)) := by
  obtain ⟨i0, hi, hz0, hz1, hz2⟩ := info_parts info_u8
  have hm : maxLen = 9223372036854775807 := rfl
  have hv := varsize_any (n : Int) w (by omega) (by omega)
  obtain ⟨z, hz, hz'⟩ : ∃ z : Nat, z ≤ 4 ∧ (if (n : Int) < 128 then 1 else if (n : Int) < 16384 then 2 else if (n : Int) < 2097152 then 3 else if (n : Int) < 268435456 then 4 else 0) = (z : Int) := by
    repeat' split
    · exact ⟨1, by omega, rfl⟩
    · exact ⟨2, by omega, rfl⟩
    · exact ⟨3, by omega, rfl⟩
    · exact ⟨4, by omega, rfl⟩
    · exact ⟨0, by omega, rfl⟩
  rw [hz'] at hv
  have H := Lib.hid hv
  clear hv hz'
  go_enter Tryd.func45, Tryd.ntmps45
  go_wp2_with (first
    | (go_at_call 51; refine H.out.mono ?_; rintro e w1 ⟨rfl, rfl⟩)
    | (go_at_call 52; refine (grown_any a c l z _ (by omega) hr hn (by omega)).mono ?_; rintro e w1 ⟨g, rfl, hg, hown1, hk1⟩))
  clear H
  go_loopw [1, 5] (fun m v wr => ∃ (x : Nat) (p : List UInt8), m = .int .u32 x ∧ x ≤ n ∧ p ++ var7 x = var7 n ∧ wr.ownsRow w.heap.size 5 1 v (l ++ p).length (B8 (l ++ p)) ∧ Kept No w wr ∧ p.length + x ≤ n) (fun m _ _ => (intOf m).toNat)
  case atStart => exact ⟨n, [], rfl, by omega, rfl, by simpa using hown1, hk1, by simp⟩
  case round =>
    obtain ⟨x, p, rfl, hx, hp, hown, hk, hpl⟩ := hrel
    have HP := Lib.hid hp
    clear hp hown1 hk1 hg
    have hsz := hk.size
    by_cases hlt : x < 128
    · go_wp2_with (at_builtin; refine wpList_append_own _ rfl _ _ _ rfl w.heap.size 5 i0 _ 1 1 Tryd.underlying25 hi hz0 hz1 hz2 rfl (by decide) _ _ _ rfl (hown.alloc _) ⟨wr.heap.size, 0, none⟩ 1 1 (B8 [byteOf x]) rfl rfl ?c1 (B8_one _) ?c2 ?c3 ?c4 ?_; rotate_right; intro v2 w2 hown2 hg2 _)
      case c1 => exact new_at (by rw [B8_cons (by omega) (by omega)]; rfl)
      case c2 => simp; omega
      case c3 => simp; omega
      case c4 => simp; omega
      go_ret
      refine lays_of hown2 (by rw [← HP.out, var7_lt hlt]; simp; omega) (by rw [← HP.out, var7_lt hlt]; simp [B8_append, B8]) (by rw [← HP.out, var7_lt hlt]; simp; omega) ((hk.alloc _).grown hg2 (own_no hown))
    · go_wp2_with (at_builtin; refine wpList_append_own _ rfl _ _ _ rfl w.heap.size 5 i0 _ 1 1 Tryd.underlying25 hi hz0 hz1 hz2 rfl (by decide) _ _ _ rfl (hown.alloc _) ⟨wr.heap.size, 0, none⟩ 1 1 (B8 [byteOf ((x : Int) % 128 + 128)]) rfl rfl ?c1b (B8_one _) ?c2b ?c3b ?c4b ?_; rotate_right; intro v2 w2 hown2 hg2 _)
      case c1b => exact new_at (by rw [B8_cons (by omega) (by omega)]; rfl)
      case c2b => simp; omega
      case c3b => simp; omega
      case c4b => simp; omega
      go_roundw
      case rel => exact ⟨x / 128, p ++ [byteOf ((x : Int) % 128 + 128)], by go_num, by omega, by rw [← HP.out, var7_ge hlt]; simp, by simpa [B8_append, List.append_assoc, Nat.add_assoc] using hown2, (hk.alloc _).grown hg2 (own_no hown), by simp; omega⟩
      case measure => simp [intOf]; omega

theorem var_great (a : Option Addr) (c : Nat) (l : List UInt8) (n : Nat) (w : World) (h1 : 268435455 < n) (h2 : n < 4294967296) (hr : Row w a (B8 l)) (hn : a = none → l.length = 0 ∧ c = 0) (hl : l.length ≤ 140737000000000) :
    Calls Tryd.prog 45 #[.slice a l.length c, .int .u32 n] w (Lays w l) := by
  have hv := varsize_any (n : Int) w (by omega) (by omega)
  have e : (if (n : Int) < 128 then 1 else if (n : Int) < 16384 then 2 else if (n : Int) < 2097152 then 3 else if (n : Int) < 268435456 then 4 else 0) = (0 : Int) := by
    repeat rw [if_neg (by omega)]
  rw [e] at hv
  have H := Lib.hid hv
  clear hv e
  go_enter Tryd.func45, Tryd.ntmps45
  go_wp2_with (first
    | (go_at_call 51; refine H.out.mono ?_; rintro e w1 ⟨rfl, rfl⟩)
    | (go_at_call 52; refine (grown_any a c l 0 _ (by omega) hr hn (by omega)).mono ?_; rintro e w1 ⟨g, rfl, hg, hown1, hk1⟩))
  go_ret
  exact ⟨g, _, rfl, hg, hown1, hk1⟩

end Go.Proofs.YtfhcmmmgnkinoaaDoor
