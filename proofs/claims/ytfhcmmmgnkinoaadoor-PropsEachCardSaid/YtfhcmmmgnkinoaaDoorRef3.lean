/-
  Contract of the document's own Reader's Var, where nothing was wrong.
-/
import Derived.Test.YtfhcmmmgnkinoaaDoorRef2
namespace Go.Proofs.YtfhcmmmgnkinoaaDoor
open Go.RowKit
set_option linter.unusedVariables false
set_option linter.unusedSimpArgs false

theorem RefR.bad {w : World} {r : Nat} {B : ByteArray} {l : List UInt8} (h : RefR w r B l 0) (n : Nat) (e : Int) (he : e ≠ 0) : RAfter w ((w.drewN n).setCell ⟨r, 2, none⟩ (.int .i64 e)) r B [] e := by
  obtain ⟨at_, hb, h1, h2, h3, h4⟩ := h
  exact ⟨⟨at_, hb.set2 _ _ _ (by simp), h1, h2, fun h => absurd h he, fun _ => rfl⟩, ((Kept.refl (One r) w).drewN n).setCell (p := ⟨r, 2, none⟩) (.inr rfl) _⟩
theorem RefR.on {w : World} {r : Nat} {B : ByteArray} {at_ : Nat} (hb : Blk w r 45 #[.string B, .int .i64 at_, .int .i64 0]) (h2 : B.size ≤ 140737000000000) (n k : Nat) (hk : at_ + k ≤ B.size) (x : Int) (hx : x = (at_ + k : Nat)) :
    RAfter w ((w.drewN n).setCell ⟨r, 1, none⟩ (.int .i64 x)) r B ((B.data.toList.drop at_).drop k) 0 := by
  subst hx
  exact ⟨⟨at_ + k, hb.set2 _ _ _ (by simp), hk, h2, fun _ => by rw [List.drop_drop], fun h => absurd rfl h⟩, ((Kept.refl (One r) w).drewN n).setCell (p := ⟨r, 1, none⟩) (.inr rfl) _⟩

set_option maxRecDepth 100000 in
set_option maxHeartbeats 4000000 in
theorem refvar_ok (w : World) (r : Nat) (B : ByteArray) (l : List UInt8) (h : RefR w r B l 0) :
    Calls Tryd.prog 58 #[.pointer (some ⟨r, 0, none⟩)] w (RrvIs (rv 4 0 0 l 0) w r B) := by
  generalize hR : rv 4 0 0 l 0 = R
  have h' := h
  obtain ⟨at_, hb, h1, h2, h3, h4⟩ := h
  have hl := h3 rfl
  subst hl
  have HR := Lib.hid hR
  clear hR h3 h4
  have c0 := hb.cell 0
  have c1 := hb.cell 1
  have c2 := hb.cell 2
  have f1 := hb.frozen 1
  have f2 := hb.frozen 2
  simp at c0 c1 c2
  go_enter Tryd.func58, Tryd.ntmps58
  go_wp2
  go_loopw [3, 4, 5] (fun n b i wr => ∃ (k x d : Nat), k ≤ 3 ∧ i = .int .i64 k ∧ n = .int .u32 x ∧ b = .int .u32 (128 ^ k : Nat) ∧ x < 128 ^ k ∧ rv (4 - k) k x ((B.data.toList.drop at_).drop k) 0 = R ∧ wr = w.drewN d ∧ at_ + k ≤ B.size) (fun _ _ i _ => 4 - (intOf i).toNat)
  case atStart => exact ⟨0, 0, 0, by omega, rfl, rfl, rfl, by omega, HR.out, rfl, by omega⟩
  case round =>
    obtain ⟨k, x, d, hk, rfl, rfl, rfl, hx, hrv, rfl, hat⟩ := hrel
    have HV := Lib.hid hrv
    clear hrv HR
    by_cases hend : at_ + k = B.size
    · have hd : decide ((B.size : Int) ≤ at_ + k) = true := by simp; omega
      have hR : R = (0, [], 2) := by
        rw [← HV.out, List.drop_drop, List.drop_eq_nil_of_le (by rw [size_list]; omega), show 4 - k = 3 - k + 1 from by omega, rv_nil]
      have HD := Lib.hid hR
      have hlt : (k : Int) < 4 := by omega
      clear hR HV hx
      go_wp2
      go_quiet (fail)
      go_wp2
      go_ret
      rw [HD.out]
      exact ⟨rfl, h'.bad _ 2 (by decide)⟩
    · have hd : decide ((B.size : Int) ≤ at_ + k) = false := by simp; omega
      have hlt : at_ + k < B.size := by omega
      have hlt2 : (at_ + k : Int) < B.size := by omega
      have hu := byte_lt B[at_ + k]
      have hcons : (B.data.toList.drop at_).drop k = B[at_ + k] :: (B.data.toList.drop at_).drop (k + 1) := by
        rw [List.drop_drop, List.drop_drop, List.drop_eq_getElem_cons (by rw [size_list]; exact hlt)]
        rfl
      have HC := Lib.hid hcons
      clear hcons
      rcases (show k = 0 ∨ k = 1 ∨ k = 2 ∨ k = 3 from by omega) with rfl | rfl | rfl | rfl
      · have g1 : IntKind.i64.wrap ((at_ : Int)) = (at_ : Int) := IntWalk.i64_in _ (by omega)
        have g2 : ((at_ : Int)).toNat = at_ := by omega
        have g3 : (0 : Int) ≤ (at_ : Int) := by omega
        have g4 : at_ < B.size := by omega
        have g5 : (at_ : Int) < (B.size : Int) := by omega
        have hu' : (B[at_]).toNat < 256 := byte_lt _
        have HVC : rv (3 + 1) 0 x (B[at_] :: List.drop 1 (List.drop at_ B.data.toList)) 0 = R := by
          have := HV.out
          rw [HC.out] at this
          exact this
        have HV2 := Lib.hid HVC
        clear HVC
        rcases (show 128 ≤ (B[at_]).toNat ∨ (0 < (B[at_]).toNat ∧ (B[at_]).toNat < 128) ∨ (B[at_]).toNat = 0 from by omega) with hq | ⟨hq0, hq⟩ | hq
        · have hrv := HV2.out
          rw [rv_cons_more 3 0 x _ _ hq] at hrv
          have HR := Lib.hid hrv
          clear hrv
          go_wp2
          go_quiet (fail)
          go_wp2
          go_quiet (fail)
          go_wp2
          go_roundw
          case rel => exact ⟨1, x + (B[at_]).toNat % 128 * 1, _, by omega, by go_num, by go_num, rfl, by omega, HR.out, rfl, by omega⟩
          case measure => simp [intOf]
        · have hrv := HV2.out
          rw [rv_cons_done 3 0 x _ _ hq (by have := hq0; omega)] at hrv
          have HR := Lib.hid hrv
          clear hrv
          go_wp2
          go_quiet (fail)
          go_wp2
          go_quiet (fail)
          go_wp2
          go_ret
          rw [← HR.out]
          exact ⟨ret_int (by show ((x : Int) + (B[at_]).toNat % 128 : Int) = ((x + (B[at_]).toNat % 128 * 128 ^ 0 : Nat) : Int); omega), RefR.on hb h2 _ 1 (by omega) _ (by omega)⟩
        · have hrv := HV2.out
          rw [rv_cons_done 3 0 x _ _ (by have : (B[at_]).toNat = 0 := hq; omega) (by simp)] at hrv
          have HR := Lib.hid hrv
          clear hrv
          go_wp2
          go_quiet (fail)
          go_wp2
          go_quiet (fail)
          go_wp2
          go_ret
          rw [← HR.out]
          exact ⟨ret_int (by have : (B[at_]).toNat = 0 := hq; show (x : Int) = ((x + (B[at_]).toNat % 128 * 128 ^ 0 : Nat) : Int); omega), RefR.on hb h2 _ 1 (by omega) _ (by omega)⟩
      · have g1 : IntKind.i64.wrap ((at_ : Int) + 1) = (at_ : Int) + 1 := IntWalk.i64_in _ (by omega)
        have g2 : ((at_ : Int) + 1).toNat = at_ + 1 := by omega
        have g3 : (0 : Int) ≤ (at_ : Int) + 1 := by omega
        have g4 : at_ + 1 < B.size := by omega
        have g5 : (at_ : Int) + 1 < (B.size : Int) := by omega
        have hu' : (B[at_ + 1]).toNat < 256 := byte_lt _
        have HVC : rv (2 + 1) 1 x (B[at_ + 1] :: List.drop 2 (List.drop at_ B.data.toList)) 0 = R := by
          have := HV.out
          rw [HC.out] at this
          exact this
        have HV2 := Lib.hid HVC
        clear HVC
        rcases (show 128 ≤ (B[at_ + 1]).toNat ∨ (0 < (B[at_ + 1]).toNat ∧ (B[at_ + 1]).toNat < 128) ∨ (B[at_ + 1]).toNat = 0 from by omega) with hq | ⟨hq0, hq⟩ | hq
        · have hrv := HV2.out
          rw [rv_cons_more 2 1 x _ _ hq] at hrv
          have HR := Lib.hid hrv
          clear hrv
          go_wp2
          go_quiet (fail)
          go_wp2
          go_quiet (fail)
          go_wp2
          go_roundw
          case rel => exact ⟨2, x + (B[at_ + 1]).toNat % 128 * 128, _, by omega, by go_num, by go_num, rfl, by omega, HR.out, rfl, by omega⟩
          case measure => simp [intOf]
        · have hrv := HV2.out
          rw [rv_cons_done 2 1 x _ _ hq (by have := hq0; omega)] at hrv
          have HR := Lib.hid hrv
          clear hrv
          go_wp2
          go_quiet (fail)
          go_wp2
          go_quiet (fail)
          go_wp2
          go_ret
          rw [← HR.out]
          exact ⟨ret_int (by show ((x : Int) + (B[at_ + 1]).toNat % 128 * 128 : Int) = ((x + (B[at_ + 1]).toNat % 128 * 128 ^ 1 : Nat) : Int); omega), RefR.on hb h2 _ 2 (by omega) _ (by omega)⟩
        · have hrv := HV2.out
          rw [rv_cons_zero 2 1 x _ _ hq (by omega)] at hrv
          have HR := Lib.hid hrv
          clear hrv
          go_wp2
          go_quiet (fail)
          go_wp2
          go_quiet (fail)
          go_wp2
          go_ret
          rw [← HR.out]
          exact ⟨rfl, h'.bad _ 3 (by decide)⟩
      · have g1 : IntKind.i64.wrap ((at_ : Int) + 2) = (at_ : Int) + 2 := IntWalk.i64_in _ (by omega)
        have g2 : ((at_ : Int) + 2).toNat = at_ + 2 := by omega
        have g3 : (0 : Int) ≤ (at_ : Int) + 2 := by omega
        have g4 : at_ + 2 < B.size := by omega
        have g5 : (at_ : Int) + 2 < (B.size : Int) := by omega
        have hu' : (B[at_ + 2]).toNat < 256 := byte_lt _
        have HVC : rv (1 + 1) 2 x (B[at_ + 2] :: List.drop 3 (List.drop at_ B.data.toList)) 0 = R := by
          have := HV.out
          rw [HC.out] at this
          exact this
        have HV2 := Lib.hid HVC
        clear HVC
        rcases (show 128 ≤ (B[at_ + 2]).toNat ∨ (0 < (B[at_ + 2]).toNat ∧ (B[at_ + 2]).toNat < 128) ∨ (B[at_ + 2]).toNat = 0 from by omega) with hq | ⟨hq0, hq⟩ | hq
        · have hrv := HV2.out
          rw [rv_cons_more 1 2 x _ _ hq] at hrv
          have HR := Lib.hid hrv
          clear hrv
          go_wp2
          go_quiet (fail)
          go_wp2
          go_quiet (fail)
          go_wp2
          go_roundw
          case rel => exact ⟨3, x + (B[at_ + 2]).toNat % 128 * 16384, _, by omega, by go_num, by go_num, rfl, by omega, HR.out, rfl, by omega⟩
          case measure => simp [intOf]
        · have hrv := HV2.out
          rw [rv_cons_done 1 2 x _ _ hq (by have := hq0; omega)] at hrv
          have HR := Lib.hid hrv
          clear hrv
          go_wp2
          go_quiet (fail)
          go_wp2
          go_quiet (fail)
          go_wp2
          go_ret
          rw [← HR.out]
          exact ⟨ret_int (by show ((x : Int) + (B[at_ + 2]).toNat % 128 * 16384 : Int) = ((x + (B[at_ + 2]).toNat % 128 * 128 ^ 2 : Nat) : Int); omega), RefR.on hb h2 _ 3 (by omega) _ (by omega)⟩
        · have hrv := HV2.out
          rw [rv_cons_zero 1 2 x _ _ hq (by omega)] at hrv
          have HR := Lib.hid hrv
          clear hrv
          go_wp2
          go_quiet (fail)
          go_wp2
          go_quiet (fail)
          go_wp2
          go_ret
          rw [← HR.out]
          exact ⟨rfl, h'.bad _ 3 (by decide)⟩
      · have g1 : IntKind.i64.wrap ((at_ : Int) + 3) = (at_ : Int) + 3 := IntWalk.i64_in _ (by omega)
        have g2 : ((at_ : Int) + 3).toNat = at_ + 3 := by omega
        have g3 : (0 : Int) ≤ (at_ : Int) + 3 := by omega
        have g4 : at_ + 3 < B.size := by omega
        have g5 : (at_ : Int) + 3 < (B.size : Int) := by omega
        have hu' : (B[at_ + 3]).toNat < 256 := byte_lt _
        have HVC : rv (0 + 1) 3 x (B[at_ + 3] :: List.drop 4 (List.drop at_ B.data.toList)) 0 = R := by
          have := HV.out
          rw [HC.out] at this
          exact this
        have HV2 := Lib.hid HVC
        clear HVC
        rcases (show 128 ≤ (B[at_ + 3]).toNat ∨ (0 < (B[at_ + 3]).toNat ∧ (B[at_ + 3]).toNat < 128) ∨ (B[at_ + 3]).toNat = 0 from by omega) with hq | ⟨hq0, hq⟩ | hq
        · have hrv := HV2.out
          rw [rv_cons_more 0 3 x _ _ hq] at hrv
          have HR := Lib.hid hrv
          clear hrv
          go_wp2
          go_quiet (fail)
          go_wp2
          go_quiet (fail)
          go_wp2
          go_ret
          rw [← HR.out]
          exact ⟨rfl, h'.bad _ 3 (by decide)⟩
        · have hrv := HV2.out
          rw [rv_cons_done 0 3 x _ _ hq (by have := hq0; omega)] at hrv
          have HR := Lib.hid hrv
          clear hrv
          go_wp2
          go_quiet (fail)
          go_wp2
          go_quiet (fail)
          go_wp2
          go_ret
          rw [← HR.out]
          exact ⟨ret_int (by show ((x : Int) + (B[at_ + 3]).toNat % 128 * 2097152 : Int) = ((x + (B[at_ + 3]).toNat % 128 * 128 ^ 3 : Nat) : Int); omega), RefR.on hb h2 _ 4 (by omega) _ (by omega)⟩
        · have hrv := HV2.out
          rw [rv_cons_zero 0 3 x _ _ hq (by omega)] at hrv
          have HR := Lib.hid hrv
          clear hrv
          go_wp2
          go_quiet (fail)
          go_wp2
          go_quiet (fail)
          go_wp2
          go_ret
          rw [← HR.out]
          exact ⟨rfl, h'.bad _ 3 (by decide)⟩

end Go.Proofs.YtfhcmmmgnkinoaaDoor
