/-
  Contracts of the document's own calls that lay bytes (pouchref01).
-/
import Derived.Test.YtfhcmmmgnkinoaaDoorWire
namespace Go.Proofs.YtfhcmmmgnkinoaaDoor
open Go.RowKit
set_option linter.unusedVariables false
set_option linter.unusedSimpArgs false

set_option maxRecDepth 100000 in
set_option maxHeartbeats 400000 in
theorem reflvar_great (a : Option Addr) (c : Nat) (l : List UInt8) (n : Nat) (w : World) (h1 : 268435455 < n) (h2 : n < 4294967296) (hr : Row w a (B8 l)) (hn : a = none → c = 0) (hl : l.length ≤ 140737000000000) :
    Calls Tryd.prog 50 #[.slice a l.length c, .int .u32 n] w (Lays w l) := by
  obtain ⟨i0, hi, hz0, hz1, hz2⟩ := info_parts info_u8
  have hm : maxLen = 9223372036854775807 := rfl
  go_enter Tryd.func50, Tryd.ntmps50
  go_wp2_with (at_builtin; refine wpList_append_row _ rfl _ _ _ rfl w.heap.size 5 i0 _ 1 Tryd.underlying25 hi hz0 hz1 hz2 rfl _ _ _ rfl (own_empty w _ _ (Nat.le_refl _)) a l.length c (B8 l) rfl (by simp) ?c0 hn (B8_one _) ?c1 ?c2 ?c3 ?_; rotate_right; intro v2 w2 hown2 hg2 hv2)
  case c0 => exact hr.keptNo ((Kept.refl No w).alloc _)
  case c1 => omega
  case c2 => omega
  case c3 => simp
  go_ret
  exact lays_not hown2 (by simp) (by simp) (by intro h; have h9 := hv2.1 h; cases h9.1) (((Kept.refl No w).alloc _).grown hg2 (own_no (own_empty w _ 5 (Nat.le_refl _))))

set_option maxRecDepth 100000 in
set_option maxHeartbeats 400000 in
theorem reflvar_any (a : Option Addr) (c : Nat) (l : List UInt8) (n : Nat) (w : World) (h1 : n ≤ 268435455) (hr : Row w a (B8 l)) (hn : a = none → c = 0) (hl : l.length ≤ 140737000000000) :
    Calls Tryd.prog 50 #[.slice a l.length c, .int .u32 n] w (Lays w (l ++ var7 n)) := by
  obtain ⟨i0, hi, hz0, hz1, hz2⟩ := info_parts info_u8
  have hm : maxLen = 9223372036854775807 := rfl
  go_enter Tryd.func50, Tryd.ntmps50
  go_wp2_with (at_builtin; refine wpList_append_row _ rfl _ _ _ rfl w.heap.size 5 i0 _ 1 Tryd.underlying25 hi hz0 hz1 hz2 rfl _ _ _ rfl (own_empty w _ _ (Nat.le_refl _)) a l.length c (B8 l) rfl (by simp) ?c0 hn (B8_one _) ?c1 ?c2 ?c3 ?_; rotate_right; intro v1 w1 hown1 hg1 hv1)
  case c0 => exact hr.keptNo ((Kept.refl No w).alloc _)
  case c1 => omega
  case c2 => omega
  case c3 => simp
  have hk1 : Kept No w w1 := ((Kept.refl No w).alloc _).grown hg1 (own_no (own_empty w _ 5 (Nat.le_refl _)))
  clear hg1 hv1
  go_loopw [1, 5] (fun m v wr => ∃ (x : Nat) (p : List UInt8), m = .int .u32 x ∧ x ≤ n ∧ p ++ var7 x = var7 n ∧ wr.ownsRow w.heap.size 5 1 v (l ++ p).length (B8 (l ++ p)) ∧ Kept No w wr ∧ p.length + x ≤ n) (fun m _ _ => (intOf m).toNat)
  case atStart => exact ⟨n, [], rfl, by omega, rfl, by simpa using hown1, hk1, by simp⟩
  case round =>
    obtain ⟨x, p, rfl, hx, hp, hown, hk, hpl⟩ := hrel
    have HP := Lib.hid hp
    clear hp hown1 hk1
    have hsz := hk.size
    by_cases hlt : x < 128
    · go_wp2_with (at_builtin; refine wpList_append_own _ rfl _ _ _ rfl w.heap.size 5 i0 _ 1 1 Tryd.underlying25 hi hz0 hz1 hz2 rfl (by decide) _ _ _ rfl (hown.alloc _) ⟨wr.heap.size, 0, none⟩ 1 1 (B8 [byteOf x]) rfl rfl ?e1 (B8_one _) ?e2 ?e3 ?e4 ?_; rotate_right; intro v2 w2 hown2 hg2 _)
      case e1 => exact new_at (by rw [B8_cons (by omega) (by omega)]; rfl)
      case e2 => simp; omega
      case e3 => simp; omega
      case e4 => simp; omega
      go_ret
      refine lays_of hown2 (by rw [← HP.out, var7_lt hlt]; simp; omega) (by rw [← HP.out, var7_lt hlt]; simp [B8_append, B8]) (by rw [← HP.out, var7_lt hlt]; simp; omega) ((hk.alloc _).grown hg2 (own_no hown))
    · go_wp2_with (at_builtin; refine wpList_append_own _ rfl _ _ _ rfl w.heap.size 5 i0 _ 1 1 Tryd.underlying25 hi hz0 hz1 hz2 rfl (by decide) _ _ _ rfl (hown.alloc _) ⟨wr.heap.size, 0, none⟩ 1 1 (B8 [byteOf ((x : Int) % 128 + 128)]) rfl rfl ?e1b (B8_one _) ?e2b ?e3b ?e4b ?_; rotate_right; intro v2 w2 hown2 hg2 _)
      case e1b => exact new_at (by rw [B8_cons (by omega) (by omega)]; rfl)
      case e2b => simp; omega
      case e3b => simp; omega
      case e4b => simp; omega
      go_roundw
      case rel => exact ⟨x / 128, p ++ [byteOf ((x : Int) % 128 + 128)], by go_num, by omega, by rw [← HP.out, var7_ge hlt]; simp, by simpa [B8_append, List.append_assoc, Nat.add_assoc] using hown2, (hk.alloc _).grown hg2 (own_no hown), by simp; omega⟩
      case measure => simp [intOf]; omega

end Go.Proofs.YtfhcmmmgnkinoaaDoor
