/-
  told of layer 12; AliasRights walked: made by mkalo.py.
-/
import Derived.Test.YtlgbljohhnhhkaaDoorAlD
import Derived.Test.YtlgbljohhnhhkaaDoorAlE
import Derived.Test.YtlgbljohhnhhkaaDoorAlK
import Derived.Test.YtlgbljohhnhhkaaDoorAlP
namespace Go.Proofs.YtlgbljohhnhhkaaDoor
open Go.RowKit
set_option linter.unusedVariables false
set_option linter.unusedSimpArgs false
set_option maxRecDepth 100000

def UseN (n : Nat) (L : List Rw) (s : ByteArray) (z : Int) (w : World) (e : Ending) (w' : World) : Prop :=
  ∃ a c, e = .returned (.tuple #[.slice a n c, .string s, .int .i64 z]) ∧ Tb w' a c L ∧ Kept No w w'
theorem UseIs.num {R : List Rw × ByteArray × Int} {w w' : World} {e : Ending} (h : UseIs R w e w') {n : Nat} {L : List Rw} {s : ByteArray} {z : Int} (hR : R = (L, s, z)) (hn : L.length = n) : UseN n L s z w e w' := by
  subst hR hn
  exact h
def sA : ByteArray := ⟨#[97]⟩
def L3a : List Rw := [⟨3, sA⟩]
theorem name_a : nameB sA = true := by decide +kernel
theorem right3 : rightGo 0 L3a = true := by
  show (decide (0 < 3) && (nameB sA && true)) = true
  rw [name_a]
  rfl
theorem use1 : useR [] 5 3 sA = (L3a, sA, 0) := by
  unfold useR
  rw [if_neg (by rw [name_a]; decide +kernel), if_pos (by decide +kernel)]
  rfl
theorem use2 : useR L3a 5 3 ⟨#[]⟩ = (L3a, sA, 0) := iuse_get (by decide) (by decide) (o := some ⟨3, sA⟩) (by simp [ofL, L3a])
theorem use3 : useR L3a 5 4 ⟨#[]⟩ = (L3a, ⟨#[]⟩, 8) := iuse_get (by decide) (by decide) (o := none) (by simp [ofL, L3a])
theorem texts3 : Texts L3a := by
  intro r hr
  simp [L3a] at hr
  subst hr
  decide +kernel
set_option maxHeartbeats 4000000 in
theorem told12_any (w : World) (hT : Tabs w) : Calls Tryd.prog 5 #[] w (RightIs true w) := by
  have C1 := Lib.hid (fun wx hT => (show Calls Tryd.prog 10 #[.slice none 0 0, .int .u16 5, .int .u16 3, .string ⟨#[97]⟩] wx (UseN 1 L3a ⟨#[97]⟩ 0 wx) from (iuse_any none 0 [] 5 3 sA wx (tb_nil wx) rfl (by decide) (by decide +kernel) hT).mono (fun e w' h => h.num use1 rfl)))
  have C2 := Lib.hid (fun wx a c h hT => (show Calls Tryd.prog 10 #[.slice a 1 c, .int .u16 5, .int .u16 3, .string ⟨#[]⟩] wx (UseN 1 L3a ⟨#[97]⟩ 0 wx) from (iuse_any a c L3a 5 3 ⟨#[]⟩ wx h right3 (by decide) (by decide +kernel) hT).mono (fun e w' h => h.num use2 rfl)))
  have C3 := Lib.hid (fun wx a c h hT => (show Calls Tryd.prog 10 #[.slice a 1 c, .int .u16 5, .int .u16 4, .string ⟨#[]⟩] wx (UseN 1 L3a ⟨#[]⟩ 8 wx) from (iuse_any a c L3a 5 4 ⟨#[]⟩ wx h right3 (by decide) (by decide +kernel) hT).mono (fun e w' h => h.num use3 rfl)))
  have C4 := Lib.hid (fun wx a c (h : Tb wx a c L3a) hT => (show Calls Tryd.prog 6 #[.slice a 1 c] wx (RightIs true wx) from by have h9 := iright_any a c L3a wx h.row (by decide) texts3 hT; rw [right3] at h9; exact h9))
  go_enter Tryd.func5, Tryd.ntmps5
  go_wp2_with fail
  go_at_call 10
  refine (C1.out _ hT).mono ?_
  rintro e w1 ⟨a1, c1, rfl, ht1, hk1⟩
  go_wp2_with fail
  go_at_call 10
  refine (C2.out _ _ _ ht1 (hT.kept hk1)).mono ?_
  rintro e w2 ⟨a2, c2, rfl, ht2, hk2⟩
  go_wp2_with fail
  go_at_call 10
  refine (C3.out _ _ _ (ht1.keptNo hk2) (hT.kept (hk1.trans hk2))).mono ?_
  rintro e w3 ⟨a3, c3, rfl, ht3, hk3⟩
  have hkA := (hk1.trans hk2).trans hk3
  have ht4 := (ht1.keptNo hk2).keptNo hk3
  go_wp2_with (go_at_call 6; refine (C4.out _ _ _ ht4 (hT.kept hkA)).mono ?_; rintro e w4 ⟨rfl, hk4⟩)
  go_ret
  exact ⟨rfl, hkA.trans hk4⟩

theorem OwnR.row {t : TypeId} {w w' : World} {L : List Rw} {e : Ending} (h : OwnR t w L e w') : ∃ a c, e = .returned (.slice a L.length c) ∧ Tb w' a c L ∧ Kept No w w' := by
  obtain ⟨a, c, h1, h2, h3⟩ := h
  exact ⟨a, c, h1, own_tb h2, h3⟩
set_option maxHeartbeats 4000000 in
theorem aliasRights_at (a : Option Addr) (len cap m : Nat) (M : List Rw) (w : World) (hT : Tabs w) (hm : M.length = m) (hmr : Row w a (RC M)) (hm30 : m ≤ 30) (hmlen : m ≤ len) (hle : len ≤ cap) (hcap : cap ≤ 9223372036854775807) (hwf : ∀ p ∈ M, p.tx.size ≤ 9223372036854775807) (hwh : (len ≤ 30 ∧ m = len) ∨ (30 < len ∧ m = 30)) :
    Calls Tryd.prog 3 #[.slice a len cap] w fun e w' => e = .returned (.bool true) ∧ Below w.heap.size w w' := by
  have HFIN := Lib.hid (fun wx (hk : Kept No w wx) => hk.below (Nat.le_refl _) (fun _ _ f => f))
  have HT := Lib.hid (fun wx hT => told12_any wx hT)
  have HTO := Lib.hid (fun wx (hk : Kept No w wx) => (show Calls Tryd.prog 7 #[.slice a m cap] wx (fun e w' => ∃ a4 c4, e = .returned (.slice a4 m c4) ∧ Row w' a4 (RC M) ∧ Kept No wx w') from by
    subst hm
    exact (ito_any a cap M wx (hmr.keptNo hk) (by omega)).mono fun e w' h => by obtain ⟨a4, c4, h1, h2, h3⟩ := h.row; exact ⟨a4, c4, h1, h2.row, h3⟩))
  have HRR := Lib.hid (fun wx (hk : Kept No w wx) (ht : Texts M) => (show Calls Tryd.prog 8 #[.slice a m cap] wx (RightIs (rightGo 0 M) wx) from by subst hm; exact rright_any a cap M wx (hmr.keptNo hk) (by omega) ht))
  have HRI := Lib.hid (fun wx b d (hr : Row wx b (RC M)) (ht : Texts M) (hT9 : Tabs wx) => (show Calls Tryd.prog 6 #[.slice b m d] wx (RightIs (rightGo 0 M) wx) from by subst hm; exact iright_any b d M wx hr (by omega) ht hT9))
  generalize rightGo 0 M = B at *
  have HWF := Lib.hid hwf
  have HM := Lib.hid hm
  clear hwf hm
  have hmc : m ≤ cap := by omega
  go_enter Tryd.func3, Tryd.ntmps3
  rcases hwh with ⟨h1, rfl⟩ | ⟨h1, rfl⟩
  · have h1I : (m : Int) ≤ 30 := by omega
    have hmin : min (m : Int) 30 = (m : Int) := by omega
    go_wp2
    clear hmin
    go_loopw [3] (fun v wr => ∃ j : Nat, v = .int .i64 j ∧ j ≤ m ∧ Hid (∀ k (h : k < M.length), k < j → M[k].tx.size ≤ 200) ∧ Kept No w wr) (fun v _ => m - (intOf v).toNat)
    case atStart => exact ⟨0, rfl, by omega, Lib.hid (fun k h h2 => by omega), Kept.refl _ _⟩
    case round =>
      obtain ⟨j, rfl, hj, HS, hk⟩ := hrel
      by_cases hlt : j < m
      · have hltM : j < M.length := by rw [HM.out]; exact hlt
        obtain ⟨b, off, rfl, hb, q0, q1⟩ := (hmr.keptNo hk).rw3 hltM
        have hsz := HWF.out _ (List.getElem_mem hltM)
        have HNX : Hid (M[j].tx.size ≤ 200 → ∀ k (h : k < M.length), k < j + 1 → M[k].tx.size ≤ 200) := Lib.hid (fun h9 k h h2 => by
          rcases Nat.lt_or_ge k j with h3 | h3
          · exact HS.out k h h3
          · obtain rfl : k = j := by omega
            exact h9)
        generalize M[j] = p at *
        obtain ⟨id, tx⟩ := p
        dsimp only at q0 q1 hsz HNX
        by_cases h200 : tx.size ≤ 200
        · have h2I : decide ((200 : Int) < (tx.size : Int)) = false := by simp; omega
          have HN := Lib.hid (HNX.out h200)
          clear HNX HS
          go_wp2
          go_roundw
          case rel => exact ⟨j + 1, by go_num, by omega, HN, hk⟩
          case measure => simp [intOf]; omega
        · have h2I : (200 : Int) < (tx.size : Int) := by omega
          clear HNX HS
          go_wp2_with (go_at_call 5; refine (HT.out _ (hT.kept hk)).mono ?_; rintro e w1 ⟨rfl, hk1⟩)
          go_ret
          exact ⟨rfl, HFIN.out _ (hk.trans hk1)⟩
      · have HTX : Hid (Texts M) := Lib.hid (fun r hr => by
          obtain ⟨k, hk9, rfl⟩ := List.getElem_of_mem hr
          have := HS.out k hk9 (by have := HM.out; omega)
          omega)
        clear HS
        go_wp2_with fail
        go_at_call 5
        refine (HT.out _ (hT.kept hk)).mono ?_
        rintro e w1 ⟨rfl, hk1⟩
        have hkA := hk.trans hk1
        go_wp2_with fail
        go_at_call 7
        refine (HTO.out _ hkA).mono ?_
        rintro e w2 ⟨a4, c4, rfl, hr4, hk2⟩
        have hkB := hkA.trans hk2
        go_wp2_with fail
        go_at_call 6
        refine (HRI.out _ _ _ hr4 HTX.out (hT.kept hkB)).mono ?_
        rintro e w3 ⟨rfl, hk3⟩
        go_wp2_with fail
        go_at_call 8
        refine (HRR.out _ (hkB.trans hk3) HTX.out).mono ?_
        rintro e w4 ⟨rfl, hk4⟩
        go_wp2
        go_ret
        exact ⟨rfl, HFIN.out _ ((hkB.trans hk3).trans hk4)⟩
  · have h1I : (30 : Int) < (len : Int) := by omega
    have hmin : min (len : Int) 30 = 30 := by omega
    go_wp2
    clear hmin
    go_loopw [3] (fun v wr => ∃ j : Nat, v = .int .i64 j ∧ j ≤ 30 ∧ Hid (∀ k (h : k < M.length), k < j → M[k].tx.size ≤ 200) ∧ Kept No w wr) (fun v _ => 30 - (intOf v).toNat)
    case atStart => exact ⟨0, rfl, by omega, Lib.hid (fun k h h2 => by omega), Kept.refl _ _⟩
    case round =>
      obtain ⟨j, rfl, hj, HS, hk⟩ := hrel
      by_cases hlt : j < 30
      · have hltM : j < M.length := by rw [HM.out]; exact hlt
        obtain ⟨b, off, rfl, hb, q0, q1⟩ := (hmr.keptNo hk).rw3 hltM
        have hsz := HWF.out _ (List.getElem_mem hltM)
        have HNX : Hid (M[j].tx.size ≤ 200 → ∀ k (h : k < M.length), k < j + 1 → M[k].tx.size ≤ 200) := Lib.hid (fun h9 k h h2 => by
          rcases Nat.lt_or_ge k j with h3 | h3
          · exact HS.out k h h3
          · obtain rfl : k = j := by omega
            exact h9)
        generalize M[j] = p at *
        obtain ⟨id, tx⟩ := p
        dsimp only at q0 q1 hsz HNX
        by_cases h200 : tx.size ≤ 200
        · have h2I : decide ((200 : Int) < (tx.size : Int)) = false := by simp; omega
          have HN := Lib.hid (HNX.out h200)
          clear HNX HS
          go_wp2
          go_roundw
          case rel => exact ⟨j + 1, by go_num, by omega, HN, hk⟩
          case measure => simp [intOf]; omega
        · have h2I : (200 : Int) < (tx.size : Int) := by omega
          clear HNX HS
          go_wp2_with (go_at_call 5; refine (HT.out _ (hT.kept hk)).mono ?_; rintro e w1 ⟨rfl, hk1⟩)
          go_ret
          exact ⟨rfl, HFIN.out _ (hk.trans hk1)⟩
      · have HTX : Hid (Texts M) := Lib.hid (fun r hr => by
          obtain ⟨k, hk9, rfl⟩ := List.getElem_of_mem hr
          have := HS.out k hk9 (by have := HM.out; omega)
          omega)
        clear HS
        go_wp2_with fail
        go_at_call 5
        refine (HT.out _ (hT.kept hk)).mono ?_
        rintro e w1 ⟨rfl, hk1⟩
        have hkA := hk.trans hk1
        go_wp2_with fail
        go_at_call 7
        refine (HTO.out _ hkA).mono ?_
        rintro e w2 ⟨a4, c4, rfl, hr4, hk2⟩
        have hkB := hkA.trans hk2
        go_wp2_with fail
        go_at_call 6
        refine (HRI.out _ _ _ hr4 HTX.out (hT.kept hkB)).mono ?_
        rintro e w3 ⟨rfl, hk3⟩
        go_wp2_with fail
        go_at_call 8
        refine (HRR.out _ (hkB.trans hk3) HTX.out).mono ?_
        rintro e w4 ⟨rfl, hk4⟩
        go_wp2
        go_ret
        exact ⟨rfl, HFIN.out _ ((hkB.trans hk3).trans hk4)⟩

theorem aliasRights_walk (a : Option Addr) (len cap : Nat) (L : List Rw) (w : World) (h : IsRws w a len cap L) (hT : Tabs w) :
    Calls Tryd.prog 3 #[.slice a len cap] w fun e w' => e = .returned (.bool true) ∧ Below w.heap.size w w' := by
  obtain ⟨hlen, hrow, hle, hcap, hnil, hwf⟩ := h
  have hMr : Row w a (RC (L.take 30)) := by
    have h1 : L = L.take 30 ++ L.drop 30 := by rw [List.take_append_drop]
    rw [h1] at hrow
    exact row_left hrow
  unfold maxLen at hcap hwf
  exact aliasRights_at a len cap (min len 30) (L.take 30) w hT (by rw [List.length_take, hlen, Nat.min_comm]) hMr (by omega) (by omega) hle hcap (fun p hp => hwf p (List.mem_of_mem_take hp)) (by omega)


end Go.Proofs.YtlgbljohhnhhkaaDoor
