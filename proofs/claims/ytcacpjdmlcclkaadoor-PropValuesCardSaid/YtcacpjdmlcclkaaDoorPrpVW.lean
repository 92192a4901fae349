/-
  The walk of PropValues: made by mkpv.py.
-/
import Derived.Test.YtcacpjdmlcclkaaDoorPrpW
import Derived.Deep.RegionHeld3
namespace Go.Proofs.YtcacpjdmlcclkaaDoor
open Go.RowKit
set_option linter.unusedVariables false
set_option linter.unusedSimpArgs false

theorem to_any (id n : Nat) (a b : ByteArray) (w : World) :
    Calls Tryd.prog 32 #[.agg #[.int .u8 id, .int .u32 n, .string a, .string b]] w fun e w' => e = .returned (.agg #[.int .u8 id, .int .u32 n, .string a, .string b]) ∧ Kept No w w' := by
  go_enter Tryd.func32, Tryd.ntmps32
  go_wp2
  exact bodyPost_ret (v := .agg #[.int .u8 id, .int .u32 n, .string a, .string b]) (by simp [results, Tryd.results32, go_sem]) rfl ⟨rfl, ((Kept.refl No w).alloc _).alloc _⟩
theorem keepB {w w' : World} {g : Nat} {v0 v1 v2 v3 : Value} (hk : Kept No w w') (h : w.cell? ⟨g, 0, none⟩ = some v0 ∧ w.cell? ⟨g, 1, none⟩ = some v1 ∧ w.cell? ⟨g, 2, none⟩ = some v2 ∧ w.cell? ⟨g, 3, none⟩ = some v3) :
    w'.cell? ⟨g, 0, none⟩ = some v0 ∧ w'.cell? ⟨g, 1, none⟩ = some v1 ∧ w'.cell? ⟨g, 2, none⟩ = some v2 ∧ w'.cell? ⟨g, 3, none⟩ = some v3 :=
  ⟨(hk.cell (p := ⟨g, 0, none⟩) (cell_lt h.1) (fun f => f)).trans h.1, (hk.cell (p := ⟨g, 1, none⟩) (cell_lt h.1) (fun f => f)).trans h.2.1, (hk.cell (p := ⟨g, 2, none⟩) (cell_lt h.1) (fun f => f)).trans h.2.2.1, (hk.cell (p := ⟨g, 3, none⟩) (cell_lt h.1) (fun f => f)).trans h.2.2.2⟩

set_option maxRecDepth 100000 in
set_option maxHeartbeats 4000000 in
theorem propValues_walk (x0 x1 : Int) (a b : ByteArray) (w : World) (w0 : (Lit.int .u8 x0).wf = true) (w1 : (Lit.int .u32 x1).wf = true) (w2 : a.size ≤ maxLen) (w3 : b.size ≤ maxLen) (hT : Tabs w) :
    Calls Tryd.prog 8 #[.agg #[.int .u8 x0, .int .u32 x1, .string a, .string b]] w fun e w' => e = .returned (.bool true) ∧ Below w.heap.size w w' := by
  unfold maxLen at w2 w3
  have hb0 := bounds_u8 w0
  have hb1 := bounds_u32 w1
  obtain ⟨id, rfl⟩ := Int.eq_ofNat_of_zero_le hb0.1
  obtain ⟨n, rfl⟩ := Int.eq_ofNat_of_zero_le hb1.1
  have h8 : id < 256 := by omega
  have hn : n < 4294967296 := by omega
  have H0 := Lib.hid (fun wx hT => told5_any wx hT)
  by_cases hA : a.size ≤ 300
  · by_cases hB : b.size ≤ 300
    · have hA2 : decide ((300 : Int) < a.size) = false := by simp; omega
      have hB2 : decide ((300 : Int) < b.size) = false := by simp; omega
      have c1 := fun wx hT => pright_any id n a b wx hT h8 hn (by omega) (by omega)
      have c2 := fun wx => rright_any id n a b wx h8 hn (by omega) (by omega)
      have c3 := fun wx hT => pvalue_any id n a b wx hT h8 hn (by omega) (by omega)
      have c4 := fun wx => rvalue_any id n a b wx h8 hn (by omega) (by omega)
      generalize rightB id n a b = R1 at *
      generalize valueB id n a b = R2 at *
      have H1 := Lib.hid c1
      have H2 := Lib.hid c2
      have H3 := Lib.hid c3
      have H4 := Lib.hid c4
      have hs1 := beq_self_b R1
      have hs2 := beq_self_b R2
      clear c1 c2 c3 c4 w0 w1 hb0 hb1
      have hB1 := Blk.new w 36 #[.int .u8 id, .int .u32 n, .string a, .string b]
      have hB0 := Lib.hid (show ((w.alloc (.cells #[.int .u8 id, .int .u32 n, .string a, .string b] 36)).drew.cell? ⟨w.heap.size, 0, none⟩ = some (.int .u8 id) ∧ (w.alloc (.cells #[.int .u8 id, .int .u32 n, .string a, .string b] 36)).drew.cell? ⟨w.heap.size, 1, none⟩ = some (.int .u32 n) ∧ (w.alloc (.cells #[.int .u8 id, .int .u32 n, .string a, .string b] 36)).drew.cell? ⟨w.heap.size, 2, none⟩ = some (.string a) ∧ (w.alloc (.cells #[.int .u8 id, .int .u32 n, .string a, .string b] 36)).drew.cell? ⟨w.heap.size, 3, none⟩ = some (.string b)) from ⟨hB1.drew.cell 0, hB1.drew.cell 1, hB1.drew.cell 2, hB1.drew.cell 3⟩)
      have hK := ((Kept.refl No w).alloc (.cells #[.int .u8 id, .int .u32 n, .string a, .string b] 36)).drew
      clear hB1
      go_enter Tryd.func8, Tryd.ntmps8
      go_wp2
      refine wp_region_held_drew (S := (fun wx => wx.cell? ⟨w.heap.size, 0, none⟩ = some (.int .u8 id) ∧ wx.cell? ⟨w.heap.size, 1, none⟩ = some (.int .u32 n) ∧ wx.cell? ⟨w.heap.size, 2, none⟩ = some (.string a) ∧ wx.cell? ⟨w.heap.size, 3, none⟩ = some (.string b))) (by kernel_rfl) ?_ (fun hHeld => ?_)
      · exact hB0.out
      refine wpAnyH_ready (rs := [0]) (by kernel_rfl) (by simp) ?_
      refine AllReadyH.cons rfl (fun K9 hK9 => ?_) AllReadyH.nil
      go_simp
      go_wp2_with (go_at_call 24; refine (H0.out _ (hT.kept hK)).mono ?_; rintro e w20 ⟨rfl, hk20⟩; have hK := hK.trans hk20)
      refine hK9.out _ _ ?_ (fun hHeld => ?_)
      · exact keepB hk20 (by assumption)
      clear hK9 K9
      refine wpAnyH_take (i := 1) (v := (.bool true)) rfl (by kernel_rfl) (by kernel_rfl) (by kernel_rfl) (fun _ _ _ h => h) (Or.inl ⟨by rfl, ?hhv1⟩) (by assumption) ?rrv1
      case hhv1 => (intro wz9 hSw; (try dsimp only at hSw); go_simp; try with_reducible rfl)
      go_simp
      refine wpAnyH_take (i := 2) (v := (.agg #[.int .u8 id, .int .u32 n, .string a, .string b])) rfl (by kernel_rfl) (by kernel_rfl) (by kernel_rfl) (fun _ _ _ h => h) (Or.inl ⟨by rfl, ?hhv2⟩) (by assumption) ?rrv2
      case hhv2 => (intro wz9 hSw; (try dsimp only at hSw); go_simp; try with_reducible rfl)
      go_simp
      refine wpAnyH_take (i := 5) (v := (.agg #[.int .u8 id, .int .u32 n, .string a, .string b])) rfl (by kernel_rfl) (by kernel_rfl) (by kernel_rfl) (fun _ _ _ h => h) (Or.inl ⟨by rfl, ?hhv5⟩) (by assumption) ?rrv5
      case hhv5 => (intro wz9 hSw; (try dsimp only at hSw); go_simp; try with_reducible rfl)
      go_simp
      refine wpAnyH_ready (rs := [3]) (by kernel_rfl) (by simp) ?_
      refine AllReadyH.cons rfl (fun K9 hK9 => ?_) AllReadyH.nil
      go_simp
      go_wp2_with (go_at_call 32; refine (to_any id n a b _).mono ?_; rintro e w23 ⟨rfl, hk23⟩; have hK := hK.trans hk23)
      refine hK9.out _ _ ?_ (fun hHeld => ?_)
      · exact keepB hk23 (by assumption)
      clear hK9 K9
      refine wpAnyH_ready (rs := [4]) (by kernel_rfl) (by simp) ?_
      refine AllReadyH.cons rfl (fun K9 hK9 => ?_) AllReadyH.nil
      go_simp
      go_wp2_with (go_at_call 31; refine (H1.out _ (hT.kept hK)).mono ?_; rintro e w24 ⟨rfl, hk24⟩; have hK := hK.trans hk24)
      refine hK9.out _ _ ?_ (fun hHeld => ?_)
      · exact keepB hk24 (by assumption)
      clear hK9 K9
      refine wpAnyH_ready (rs := [6]) (by kernel_rfl) (by simp) ?_
      refine AllReadyH.cons rfl (fun K9 hK9 => ?_) AllReadyH.nil
      go_simp
      go_wp2_with (go_at_call 33; refine (H2.out _).mono ?_; rintro e w26 ⟨rfl, hk26⟩; have hK := hK.trans hk26)
      refine hK9.out _ _ ?_ (fun hHeld => ?_)
      · exact keepB hk26 (by assumption)
      clear hK9 K9
      refine wpAnyH_take (i := 7) (v := (.bool true)) rfl (by kernel_rfl) (by kernel_rfl) (by kernel_rfl) (fun _ _ _ h => h) (Or.inl ⟨by rfl, ?hhv7⟩) (by assumption) ?rrv7
      case hhv7 => (intro wz9 hSw; (try dsimp only at hSw); go_simp; try with_reducible rfl)
      go_simp
      refine wpAnyH_take (i := 8) (v := (.bool true)) rfl (by kernel_rfl) (by kernel_rfl) (by kernel_rfl) (fun _ _ _ h => h) (Or.inl ⟨by rfl, ?hhv8⟩) (by assumption) ?rrv8
      case hhv8 => (intro wz9 hSw; (try dsimp only at hSw); go_simp; try with_reducible rfl)
      go_simp
      refine wpAnyH_take (i := 9) (v := (.bool true)) rfl (by kernel_rfl) (by kernel_rfl) (by kernel_rfl) (fun _ _ _ h => h) (Or.inl ⟨by rfl, ?hhv9⟩) (by assumption) ?rrv9
      case hhv9 => (intro wz9 hSw; (try dsimp only at hSw); go_simp; try with_reducible rfl)
      go_simp
      refine wpAnyH_take (i := 10) (v := (.agg #[.int .u8 id, .int .u32 n, .string a, .string b])) rfl (by kernel_rfl) (by kernel_rfl) (by kernel_rfl) (fun _ _ _ h => h) (Or.inl ⟨by rfl, ?hhv10⟩) (by assumption) ?rrv10
      case hhv10 => (intro wz9 hSw; (try dsimp only at hSw); go_simp; try with_reducible rfl)
      go_simp
      refine wpAnyH_take (i := 13) (v := (.agg #[.int .u8 id, .int .u32 n, .string a, .string b])) rfl (by kernel_rfl) (by kernel_rfl) (by kernel_rfl) (fun _ _ _ h => h) (Or.inl ⟨by rfl, ?hhv13⟩) (by assumption) ?rrv13
      case hhv13 => (intro wz9 hSw; (try dsimp only at hSw); go_simp; try with_reducible rfl)
      go_simp
      refine wpAnyH_ready (rs := [11]) (by kernel_rfl) (by simp) ?_
      refine AllReadyH.cons rfl (fun K9 hK9 => ?_) AllReadyH.nil
      go_simp
      go_wp2_with (go_at_call 32; refine (to_any id n a b _).mono ?_; rintro e w31 ⟨rfl, hk31⟩; have hK := hK.trans hk31)
      refine hK9.out _ _ ?_ (fun hHeld => ?_)
      · exact keepB hk31 (by assumption)
      clear hK9 K9
      refine wpAnyH_ready (rs := [12]) (by kernel_rfl) (by simp) ?_
      refine AllReadyH.cons rfl (fun K9 hK9 => ?_) AllReadyH.nil
      go_simp
      go_wp2_with (go_at_call 34; refine (H3.out _ (hT.kept hK)).mono ?_; rintro e w32 ⟨rfl, hk32⟩; have hK := hK.trans hk32)
      refine hK9.out _ _ ?_ (fun hHeld => ?_)
      · exact keepB hk32 (by assumption)
      clear hK9 K9
      refine wpAnyH_ready (rs := [14]) (by kernel_rfl) (by simp) ?_
      refine AllReadyH.cons rfl (fun K9 hK9 => ?_) AllReadyH.nil
      go_simp
      go_wp2_with (go_at_call 35; refine (H4.out _).mono ?_; rintro e w34 ⟨rfl, hk34⟩; have hK := hK.trans hk34)
      refine hK9.out _ _ ?_ (fun hHeld => ?_)
      · exact keepB hk34 (by assumption)
      clear hK9 K9
      refine wpAnyH_take (i := 15) (v := (.bool true)) rfl (by kernel_rfl) (by kernel_rfl) (by kernel_rfl) (fun _ _ _ h => h) (Or.inl ⟨by rfl, ?hhv15⟩) (by assumption) ?rrv15
      case hhv15 => (intro wz9 hSw; (try dsimp only at hSw); go_simp; try with_reducible rfl)
      go_simp
      refine wpAnyH_take (i := 16) (v := (.bool true)) rfl (by kernel_rfl) (by kernel_rfl) (by kernel_rfl) (fun _ _ _ h => h) (Or.inl ⟨by rfl, ?hhv16⟩) (by assumption) ?rrv16
      case hhv16 => (intro wz9 hSw; (try dsimp only at hSw); go_simp; try with_reducible rfl)
      go_simp
      refine wpAnyH_take (i := 17) (v := (.bool true)) rfl (by kernel_rfl) (by kernel_rfl) (by kernel_rfl) (fun _ _ _ h => h) (Or.inl ⟨by rfl, ?hhv17⟩) (by assumption) ?rrv17
      case hhv17 => (intro wz9 hSw; (try dsimp only at hSw); go_simp; try with_reducible rfl)
      go_simp
      refine wpAnyH_done (by kernel_rfl) ?_ _
      go_wp2
      go_ret
      exact ⟨rfl, hK.below (Nat.le_refl _) (fun _ _ f => f)⟩
    · have hA2 : decide ((300 : Int) < a.size) = false := by simp; omega
      have hB2 : (300 : Int) < b.size := by omega
      go_enter Tryd.func8, Tryd.ntmps8
      go_wp2_with (go_at_call 24; refine (H0.out _ (hT.kept ((Kept.refl No w).alloc _))).mono ?_; rintro e w5 ⟨rfl, hk⟩)
      go_ret
      exact ⟨rfl, (((Kept.refl No w).alloc _).trans hk).below (Nat.le_refl _) (fun _ _ f => f)⟩
  · have hA2 : (300 : Int) < a.size := by omega
    go_enter Tryd.func8, Tryd.ntmps8
    go_wp2_with (go_at_call 24; refine (H0.out _ (hT.kept ((Kept.refl No w).alloc _))).mono ?_; rintro e w5 ⟨rfl, hk⟩)
    go_ret
    exact ⟨rfl, (((Kept.refl No w).alloc _).trans hk).below (Nat.le_refl _) (fun _ _ f => f)⟩

end Go.Proofs.YtcacpjdmlcclkaaDoor
