/-
  The law's told.
-/
import Derived.Test.YtfhcmmmgnkinoaaDoorPxU
import Derived.Test.YtfhcmmmgnkinoaaDoorPxR
import Derived.Deep.RegionHeld3
namespace Go.Proofs.YtfhcmmmgnkinoaaDoor
open Go.RowKit
set_option linter.unusedVariables false
set_option linter.unusedSimpArgs false
set_option maxRecDepth 100000

def P33 : Pr := ⟨33, 7, ⟨#[]⟩, ⟨#[]⟩⟩
theorem P33_put : putL [] [P33] = [3, 33, 0, 7] := by kernel_rfl
theorem P33_nil : putL [] [] = [0] := by kernel_rfl
theorem P33_err : takeErr [3, 33, 0, 7] 0 = 0 := by kernel_rfl
theorem P33_each : eachL (takeSec [3, 33, 0, 7] 0) = ([P33], true) := by kernel_rfl
theorem P33_take : takeR [3, 33, 0, 7] 0 = ([P33], true) := by
  unfold takeR
  rw [P33_err, P33_each, if_pos rfl, if_pos rfl]
  dsimp only
  rw [sortL_small _ (by simp)]
theorem P33_size : sizeR [P33] = 4 := by kernel_rfl
theorem P33_yes : checkB 1 [P33] = true := by kernel_rfl
theorem P33_no : checkB 3 [P33] = false := by kernel_rfl
theorem P33_wf : ∀ p ∈ [P33], p.wf' := by
  intro p hp
  obtain rfl := List.mem_singleton.1 hp
  exact ⟨by decide, by decide, by decide, by decide⟩
theorem tk33 (w : World) (r : Nat) (h : Rdr w r [3, 33, 0, 7] 0) (hT : Tabs w) : Calls Tryd.prog 18 #[.pointer (some ⟨r, 0, none⟩)] w fun e w' =>
    ∃ b o c, e = .returned (.tuple #[.slice (some ⟨b, o, none⟩) 1 c, .bool true]) ∧ Row w' (some ⟨b, o, none⟩) (PC [P33]) ∧ Kept (One r) w w' := by
  have c := ptake_any w r [3, 33, 0, 7] 0 h (by simp) hT (fun _ _ => sort_small _ (by rw [P33_each]; simp))
  rw [P33_take] at c
  refine c.mono ?_
  rintro e w' ⟨a, c, rfl, hr, hn, ha⟩
  obtain ⟨b, o, rfl, _⟩ := hr.prop (k := 0) (by simp)
  exact ⟨b, o, c, rfl, hr, ha.kept⟩
theorem cv33 {w : World} {a : Option Addr} {c : Nat} {l : List UInt8} (h : Row w a (B8 l)) (hn : a = none → l.length = 0 ∧ c = 0) : ∀ wx, Kept No w wx → (convert 25 9 (.slice a l.length c)).run Tryd.prog wx = .ok (.string ⟨l.toArray⟩) wx :=
  fun wx hk => row_str _ _ 5 Tryd.underlying25 Tryd.underlying5 Tryd.underlying9 (h.keptNo hk) c (fun h => (hn h).2)
set_option maxHeartbeats 4000000 in
theorem told6_any (w : World) (hT : Tabs w) : Calls Tryd.prog 11 #[] w fun e w' => e = .returned (.bool true) ∧ Kept No w w' := by
  have c0 := fun (a9 : Option Addr) (c9 : Nat) (wx : World) (hr : Row wx a9 (PC [P33])) (hx : Tabs wx) => put_any none 0 [] a9 c9 [P33] wx (.nil _ _) (by simp) (by simp) hr (by simp) P33_wf hx
  rw [P33_put] at c0
  have CP0 := Lib.hid c0
  clear c0
  go_enter Tryd.func11, Tryd.ntmps11
  go_wp2_with fail
  go_at_call 12
  refine (CP0.out _ _ _ (.of_cells (new_prop (p := P33))) (hT.kept ((Kept.refl No w).alloc _))).mono ?_
  rintro e w1 ⟨a1, c1, rfl, hown1, hk1⟩
  have hkw1 := ((Kept.refl No w).alloc (.cells #[.int .u8 33, .int .u32 7, .string ⟨#[]⟩, .string ⟨#[]⟩] 55)).trans hk1
  have HR1 := Lib.hid (own_row hown1)
  clear hown1 hk1
  go_wp2_with fail
  go_at_call 16
  refine (read_any a1 c1 [3, 33, 0, 7] w1 HR1.out.1 HR1.out.2 (by simp)).mono ?_
  rintro e w2 ⟨r, rfl, hrl, hrd, hk2⟩
  have hkw2 := hkw1.trans hk2
  go_wp2_with fail
  go_at_call 18
  refine (tk33 w2 r hrd (hT.kept hkw2)).mono ?_
  rintro e w3 ⟨b2, o2, c2, rfl, hr3, hk3⟩
  have hkw3 : Kept No w w3 := hkw2.then hk3 (fun i hi e => by have : i = r := e; have := hkw1.size; omega)
  have HCV := Lib.hid (cv33 (row_nobyte (HR1.out.1.keptNo hk2) hk3 (fun b e _ => by have : b = r := e; subst this; exact hrd.noByte)) HR1.out.2)
  obtain ⟨b3, o3, hbo, hbl, d0, d1, d2, d3⟩ := hr3.prop (k := 0) (by simp)
  obtain ⟨rfl, rfl⟩ : b3 = b2 ∧ o3 = o2 := by injection hbo with h; injection h with h1 h2; exact ⟨h1.symm, h2.symm⟩
  simp only [Nat.zero_mul, Nat.add_zero] at d1
  have KS : Hid (∀ wx, Kept No w3 wx → (convert 25 9 (.slice a1 4 c1)).run Tryd.prog wx = .ok (.string ⟨#[3, 33, 0, 7]⟩) wx) := HCV
  have KC : Hid (∀ wx, Kept No w3 wx → wx.cell? ⟨b3, o3 + 1, none⟩ = some (.int .u32 7)) := Lib.hid (fun wx hk => (hk.cell (p := ⟨b3, o3 + 1, none⟩) hbl (fun f => f)).trans d1)
  have CZ : Hid (∀ wx, Kept No w3 wx → Calls Tryd.prog 15 #[.slice (some ⟨b3, o3, none⟩) 1 c2] wx fun e w' => e = .returned (.int .i64 4) ∧ Kept No wx w') := Lib.hid (fun wx hk => by
    have := psize_any (some ⟨b3, o3, none⟩) c2 [P33] wx (hr3.keptNo hk) (by simp) P33_wf (hT.kept (hkw3.trans hk))
    rw [P33_size] at this
    exact this)
  have CP : Hid (∀ wx, Kept No w3 wx → Calls Tryd.prog 12 #[.slice none 0 0, .slice none 0 0] wx fun e w' => ∃ a5 c5, e = .returned (.slice a5 1 c5) ∧ (∀ wy, Kept No w' wy → (convert 25 9 (.slice a5 1 c5)).run Tryd.prog wy = .ok (.string ⟨#[0]⟩) wy) ∧ Kept No wx w') := Lib.hid (fun wx hk => by
    have c := put_any none 0 [] none 0 [] wx (.nil _ _) (by simp) (by simp) (.nil _ _) (by simp) (by simp) (hT.kept (hkw3.trans hk))
    rw [P33_nil] at c
    refine c.mono ?_
    rintro e w' ⟨a5, c5, rfl, hown5, hk5⟩
    obtain ⟨z1, z2⟩ := own_row hown5
    exact ⟨a5, c5, rfl, cv33 z1 z2, hk5⟩)
  have CK : ∀ k b, checkB k [P33] = b → Hid (∀ wx, Kept No w3 wx → Calls Tryd.prog 30 #[.int .i64 k, .slice (some ⟨b3, o3, none⟩) 1 c2] wx fun e w' => e = .returned (.bool b) ∧ Kept No wx w') := fun k b hb => Lib.hid (fun wx hk => by
    have := check_any k (some ⟨b3, o3, none⟩) c2 [P33] wx (hr3.keptNo hk) (by simp) P33_wf (hT.kept (hkw3.trans hk))
    rw [hb] at this
    exact this)
  have C1 := CK 1 true P33_yes
  have C3 := CK 3 false P33_no
  clear CK d0 d1 d2 d3 hr3 hk3 hkw2 hkw1 hrd CP0 HR1 HCV
  have hcv3 := KS.out w3 (Kept.refl No w3)
  have hce3 := KC.out w3 (Kept.refl No w3)
  go_wp2_with fail
  go_at_call 15
  refine (CZ.out _ (Kept.refl No w3)).mono ?_
  rintro e w4 ⟨rfl, k4⟩
  clear hcv3 hce3
  go_wp2_with fail
  go_at_call 12
  refine (CP.out _ k4).mono ?_
  rintro e w5 ⟨a5, c5, rfl, hcv5, hk5⟩
  have k5 := k4.trans hk5
  have hcv5 := hcv5 _ (Kept.refl No w5)
  go_wp2_with fail
  go_at_call 30
  refine (C1.out _ k5).mono ?_
  rintro e w6 ⟨rfl, hk6⟩
  have k6 := k5.trans hk6
  clear hcv5
  go_wp2_with fail
  go_at_call 30
  refine (C3.out _ k6).mono ?_
  rintro e w7 ⟨rfl, hk7⟩
  have k7 := k6.trans hk7
  go_wp2
  go_ret
  exact ⟨rfl, hkw3.trans k7⟩
end Go.Proofs.YtfhcmmmgnkinoaaDoor
