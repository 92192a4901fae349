/-
  The walk of PropFixes: made by mkpfw.py.
-/
import Derived.Test.YtlabkbdnknmngaaDoorPfx2
import Derived.Test.YtlabkbdnknmngaaDoorPrpT
import Derived.Deep.RegionHeld3
namespace Go.Proofs.YtlabkbdnknmngaaDoor
open Go.RowKit
set_option linter.unusedVariables false
set_option linter.unusedSimpArgs false
set_option maxRecDepth 100000

theorem idsL_no12 : idsL 12 = [] := by decide +kernel
theorem idsL_no13 : idsL 13 = [] := by decide +kernel
theorem idsL_some : ∀ m : Fin 16, m.1 ≠ 11 → m.1 ≠ 12 → (idsL (1 + (m.1 : Int))).isEmpty = false := by decide +kernel
set_option maxHeartbeats 8000000 in
theorem propFixes_A12 (id n : Nat) (a b : ByteArray) (kd : Int) (w : World) (h8 : id < 256) (hn : n < 4294967296) (ha : a.size ≤ 9223372036854775807) (hb : b.size ≤ 9223372036854775807) (hm : wrap64 ((IntKind.u64.wrap kd).tmod 16) = 11) (hT : Tabs w) :
    Calls Tryd.prog 3 #[.agg #[.int .u8 id, .int .u32 n, .string a, .string b], .int .i64 kd] w fun e w' => e = .returned (.bool true) ∧ Below w.heap.size w w' := by
  have H0 := Lib.hid (fun wx hT => told5_any wx hT)
  have hx := fun wx => rfix_any id n a b 12 wx h8 hn ha hb
  have e9 : fxId id 12 = 0 := by unfold fxId; rw [idsL_no12]; rfl
  rw [e9, fxV_zero] at hx
  have HX := Lib.hid hx
  clear hx e9
  have hB0 := Blk.new w 24 #[.int .u8 id, .int .u32 n, .string a, .string b]
  have HB0 := Lib.hid hB0
  have hK := (Kept.refl No w).alloc (.cells #[.int .u8 id, .int .u32 n, .string a, .string b] 24)
  clear hB0
  go_enter Tryd.func3, Tryd.ntmps3
  go_wp2_with (first
    | (go_at_call 11; refine (HX.out _).mono ?_; rintro e w1 ⟨rfl, hk1⟩; have hK := hK.trans hk1)
    | (go_at_call 10; refine (to_any _ _ _ _ _).mono ?_; rintro e w2 ⟨rfl, hk2⟩; have hK := hK.trans hk2))
  have hK := (hK.alloc (.cells #[.int .u8 0, .int .u32 0, .string ⟨#[]⟩, .string ⟨#[]⟩] 26)).drew
  have hP : Blk _ _ _ _ := (((HB0.out.kept hk1 (fun f => f)).kept hk2 (fun f => f)).alloc (.cells #[.int .u8 0, .int .u32 0, .string ⟨#[]⟩, .string ⟨#[]⟩] 26)).drew
  have hQ : Blk _ _ _ _ := (Blk.new w2 26 #[.int .u8 0, .int .u32 0, .string ⟨#[]⟩, .string ⟨#[]⟩]).drew
  refine wp_region_held_drew (S := (fun wx => (wx.cell? ⟨w.heap.size, 0, none⟩ = some (.int .u8 id) ∧ wx.cell? ⟨w.heap.size, 1, none⟩ = some (.int .u32 n) ∧ wx.cell? ⟨w.heap.size, 2, none⟩ = some (.string a) ∧ wx.cell? ⟨w.heap.size, 3, none⟩ = some (.string b)) ∧ (wx.cell? ⟨w2.heap.size, 0, none⟩ = some (.int .u8 0) ∧ wx.cell? ⟨w2.heap.size, 1, none⟩ = some (.int .u32 0) ∧ wx.cell? ⟨w2.heap.size, 2, none⟩ = some (.string ⟨#[]⟩) ∧ wx.cell? ⟨w2.heap.size, 3, none⟩ = some (.string ⟨#[]⟩)))) (by kernel_rfl) ?_ (fun hHeld => ?_)
  · exact ⟨⟨hP.cell 0, hP.cell 1, hP.cell 2, hP.cell 3⟩, ⟨hQ.cell 0, hQ.cell 1, hQ.cell 2, hQ.cell 3⟩⟩
  refine wpAnyH_ready (rs := [0]) (by kernel_rfl) (by simp) ?_
  refine AllReadyH.cons rfl (fun K9 hK9 => ?_) AllReadyH.nil
  go_simp
  go_wp2_with (go_at_call 12; refine (H0.out _ (hT.kept hK)).mono ?_; rintro e w20 ⟨rfl, hk20⟩; have hK := hK.trans hk20)
  refine hK9.out _ _ ?_ (fun hHeld => ?_)
  · exact ⟨keepB hk20 hHeld.1, keepB hk20 hHeld.2⟩
  clear hK9 K9
  refine wpAnyH_take (i := 1) (v := (.bool true)) rfl (by kernel_rfl) (by kernel_rfl) (by kernel_rfl) (fun _ _ _ h => h) (Or.inl ⟨by rfl, ?hhx1⟩) (by assumption) ?rrx1
  case hhx1 => (intro wz9 hSw; (try dsimp only at hSw); go_simp; try with_reducible rfl)
  go_simp
  refine wpAnyH_take (i := 2) (v := ?vvx2) rfl (by kernel_rfl) (by kernel_rfl) (by kernel_rfl) (fun _ _ _ h => h) (Or.inl ⟨by rfl, ?hhx2⟩) (by assumption) ?rrx2
  case hhx2 => (intro wz9 hSw; (try dsimp only at hSw); go_simp; try with_reducible rfl)
  go_simp
  refine wpAnyH_take (i := 3) (v := ?vvx3) rfl (by kernel_rfl) (by kernel_rfl) (by kernel_rfl) (fun _ _ _ h => h) (Or.inl ⟨by rfl, ?hhx3⟩) (by assumption) ?rrx3
  case hhx3 => (intro wz9 hSw; (try dsimp only at hSw); go_simp; try with_reducible rfl)
  go_simp
  refine wpAnyH_take (i := 4) (v := (.bool true)) rfl (by kernel_rfl) (by kernel_rfl) (by kernel_rfl) (fun _ _ _ h => h) (Or.inl ⟨by rfl, ?hhx4⟩) (by assumption) ?rrx4
  case hhx4 => (intro wz9 hSw; (try dsimp only at hSw); go_simp; try with_reducible rfl)
  go_simp
  refine wpAnyH_take (i := 5) (v := ?vvx5) rfl (by kernel_rfl) (by kernel_rfl) (by kernel_rfl) (fun _ _ _ h => h) (Or.inl ⟨by rfl, ?hhx5⟩) (by assumption) ?rrx5
  case hhx5 => (intro wz9 hSw; (try dsimp only at hSw); go_simp; try with_reducible rfl)
  go_simp
  refine wpAnyH_take (i := 6) (v := (.bool true)) rfl (by kernel_rfl) (by kernel_rfl) (by kernel_rfl) (fun _ _ _ h => h) (Or.inl ⟨by rfl, ?hhx6⟩) (by assumption) ?rrx6
  case hhx6 => (intro wz9 hSw; (try dsimp only at hSw); go_simp; try with_reducible rfl)
  go_simp
  refine wpAnyH_take (i := 7) (v := (.bool true)) rfl (by kernel_rfl) (by kernel_rfl) (by kernel_rfl) (fun _ _ _ h => h) (Or.inl ⟨by rfl, ?hhx7⟩) (by assumption) ?rrx7
  case hhx7 => (intro wz9 hSw; (try dsimp only at hSw); go_simp; try with_reducible rfl)
  go_simp
  refine wpAnyH_take (i := 8) (v := undef) rfl (by kernel_rfl) (by kernel_rfl) (by kernel_rfl) (fun _ _ _ h => h) (Or.inr ⟨by rfl, rfl⟩) (by assumption) ?_
  go_simp
  refine wpAnyH_take (i := 9) (v := undef) rfl (by kernel_rfl) (by kernel_rfl) (by kernel_rfl) (fun _ _ _ h => h) (Or.inr ⟨by rfl, rfl⟩) (by assumption) ?_
  go_simp
  refine wpAnyH_take (i := 10) (v := (.bool true)) rfl (by kernel_rfl) (by kernel_rfl) (by kernel_rfl) (fun _ _ _ h => h) (Or.inl ⟨by rfl, ?hhx10⟩) (by assumption) ?rrx10
  case hhx10 => (intro wz9 hSw; (try dsimp only at hSw); go_simp; try with_reducible rfl)
  go_simp
  refine wpAnyH_take (i := 11) (v := (.bool true)) rfl (by kernel_rfl) (by kernel_rfl) (by kernel_rfl) (fun _ _ _ h => h) (Or.inl ⟨by rfl, ?hhx11⟩) (by assumption) ?rrx11
  case hhx11 => (intro wz9 hSw; (try dsimp only at hSw); go_simp; try with_reducible rfl)
  go_simp
  refine wpAnyH_take (i := 12) (v := (.bool true)) rfl (by kernel_rfl) (by kernel_rfl) (by kernel_rfl) (fun _ _ _ h => h) (Or.inl ⟨by rfl, ?hhx12⟩) (by assumption) ?rrx12
  case hhx12 => (intro wz9 hSw; (try dsimp only at hSw); go_simp; try with_reducible rfl)
  go_simp
  refine wpAnyH_take (i := 13) (v := (.bool true)) rfl (by kernel_rfl) (by kernel_rfl) (by kernel_rfl) (fun _ _ _ h => h) (Or.inl ⟨by rfl, ?hhx13⟩) (by assumption) ?rrx13
  case hhx13 => (intro wz9 hSw; (try dsimp only at hSw); go_simp; try with_reducible rfl)
  go_simp
  refine wpAnyH_take (i := 14) (v := ?vvx14) rfl (by kernel_rfl) (by kernel_rfl) (by kernel_rfl) (fun _ _ _ h => h) (Or.inl ⟨by rfl, ?hhx14⟩) (by assumption) ?rrx14
  case hhx14 => (intro wz9 hSw; (try dsimp only at hSw); go_simp; try with_reducible rfl)
  go_simp
  refine wpAnyH_take (i := 15) (v := ?vvx15) rfl (by kernel_rfl) (by kernel_rfl) (by kernel_rfl) (fun _ _ _ h => h) (Or.inl ⟨by rfl, ?hhx15⟩) (by assumption) ?rrx15
  case hhx15 => (intro wz9 hSw; (try dsimp only at hSw); go_simp; try with_reducible rfl)
  go_simp
  refine wpAnyH_take (i := 16) (v := (.bool true)) rfl (by kernel_rfl) (by kernel_rfl) (by kernel_rfl) (fun _ _ _ h => h) (Or.inl ⟨by rfl, ?hhx16⟩) (by assumption) ?rrx16
  case hhx16 => (intro wz9 hSw; (try dsimp only at hSw); go_simp; try with_reducible rfl)
  go_simp
  refine wpAnyH_take (i := 17) (v := (.bool true)) rfl (by kernel_rfl) (by kernel_rfl) (by kernel_rfl) (fun _ _ _ h => h) (Or.inl ⟨by rfl, ?hhx17⟩) (by assumption) ?rrx17
  case hhx17 => (intro wz9 hSw; (try dsimp only at hSw); go_simp; try with_reducible rfl)
  go_simp
  refine wpAnyH_take (i := 18) (v := undef) rfl (by kernel_rfl) (by kernel_rfl) (by kernel_rfl) (fun _ _ _ h => h) (Or.inr ⟨by rfl, rfl⟩) (by assumption) ?_
  go_simp
  refine wpAnyH_take (i := 19) (v := undef) rfl (by kernel_rfl) (by kernel_rfl) (by kernel_rfl) (fun _ _ _ h => h) (Or.inr ⟨by rfl, rfl⟩) (by assumption) ?_
  go_simp
  refine wpAnyH_take (i := 20) (v := undef) rfl (by kernel_rfl) (by kernel_rfl) (by kernel_rfl) (fun _ _ _ h => h) (Or.inr ⟨by rfl, rfl⟩) (by assumption) ?_
  go_simp
  refine wpAnyH_take (i := 21) (v := undef) rfl (by kernel_rfl) (by kernel_rfl) (by kernel_rfl) (fun _ _ _ h => h) (Or.inr ⟨by rfl, rfl⟩) (by assumption) ?_
  go_simp
  refine wpAnyH_take (i := 22) (v := undef) rfl (by kernel_rfl) (by kernel_rfl) (by kernel_rfl) (fun _ _ _ h => h) (Or.inr ⟨by rfl, rfl⟩) (by assumption) ?_
  go_simp
  refine wpAnyH_take (i := 23) (v := undef) rfl (by kernel_rfl) (by kernel_rfl) (by kernel_rfl) (fun _ _ _ h => h) (Or.inr ⟨by rfl, rfl⟩) (by assumption) ?_
  go_simp
  refine wpAnyH_take (i := 24) (v := undef) rfl (by kernel_rfl) (by kernel_rfl) (by kernel_rfl) (fun _ _ _ h => h) (Or.inr ⟨by rfl, rfl⟩) (by assumption) ?_
  go_simp
  refine wpAnyH_take (i := 25) (v := undef) rfl (by kernel_rfl) (by kernel_rfl) (by kernel_rfl) (fun _ _ _ h => h) (Or.inr ⟨by rfl, rfl⟩) (by assumption) ?_
  go_simp
  refine wpAnyH_take (i := 26) (v := undef) rfl (by kernel_rfl) (by kernel_rfl) (by kernel_rfl) (fun _ _ _ h => h) (Or.inr ⟨by rfl, rfl⟩) (by assumption) ?_
  go_simp
  refine wpAnyH_take (i := 27) (v := undef) rfl (by kernel_rfl) (by kernel_rfl) (by kernel_rfl) (fun _ _ _ h => h) (Or.inr ⟨by rfl, rfl⟩) (by assumption) ?_
  go_simp
  refine wpAnyH_take (i := 28) (v := undef) rfl (by kernel_rfl) (by kernel_rfl) (by kernel_rfl) (fun _ _ _ h => h) (Or.inr ⟨by rfl, rfl⟩) (by assumption) ?_
  go_simp
  refine wpAnyH_take (i := 29) (v := undef) rfl (by kernel_rfl) (by kernel_rfl) (by kernel_rfl) (fun _ _ _ h => h) (Or.inr ⟨by rfl, rfl⟩) (by assumption) ?_
  go_simp
  refine wpAnyH_take (i := 30) (v := undef) rfl (by kernel_rfl) (by kernel_rfl) (by kernel_rfl) (fun _ _ _ h => h) (Or.inr ⟨by rfl, rfl⟩) (by assumption) ?_
  go_simp
  refine wpAnyH_take (i := 31) (v := undef) rfl (by kernel_rfl) (by kernel_rfl) (by kernel_rfl) (fun _ _ _ h => h) (Or.inr ⟨by rfl, rfl⟩) (by assumption) ?_
  go_simp
  refine wpAnyH_take (i := 32) (v := undef) rfl (by kernel_rfl) (by kernel_rfl) (by kernel_rfl) (fun _ _ _ h => h) (Or.inr ⟨by rfl, rfl⟩) (by assumption) ?_
  go_simp
  refine wpAnyH_take (i := 33) (v := undef) rfl (by kernel_rfl) (by kernel_rfl) (by kernel_rfl) (fun _ _ _ h => h) (Or.inr ⟨by rfl, rfl⟩) (by assumption) ?_
  go_simp
  refine wpAnyH_take (i := 34) (v := (.bool true)) rfl (by kernel_rfl) (by kernel_rfl) (by kernel_rfl) (fun _ _ _ h => h) (Or.inl ⟨by rfl, ?hhx34⟩) (by assumption) ?rrx34
  case hhx34 => (intro wz9 hSw; (try dsimp only at hSw); go_simp; try with_reducible rfl)
  go_simp
  refine wpAnyH_take (i := 35) (v := (.bool true)) rfl (by kernel_rfl) (by kernel_rfl) (by kernel_rfl) (fun _ _ _ h => h) (Or.inl ⟨by rfl, ?hhx35⟩) (by assumption) ?rrx35
  case hhx35 => (intro wz9 hSw; (try dsimp only at hSw); go_simp; try with_reducible rfl)
  go_simp
  refine wpAnyH_take (i := 36) (v := (.bool true)) rfl (by kernel_rfl) (by kernel_rfl) (by kernel_rfl) (fun _ _ _ h => h) (Or.inl ⟨by rfl, ?hhx36⟩) (by assumption) ?rrx36
  case hhx36 => (intro wz9 hSw; (try dsimp only at hSw); go_simp; try with_reducible rfl)
  go_simp
  refine wpAnyH_done (by kernel_rfl) ?_ _
  go_wp2
  go_ret
  exact ⟨rfl, hK.below (Nat.le_refl _) (fun _ _ f => f)⟩

set_option maxHeartbeats 8000000 in
theorem propFixes_A13 (id n : Nat) (a b : ByteArray) (kd : Int) (w : World) (h8 : id < 256) (hn : n < 4294967296) (ha : a.size ≤ 9223372036854775807) (hb : b.size ≤ 9223372036854775807) (hm : wrap64 ((IntKind.u64.wrap kd).tmod 16) = 12) (hT : Tabs w) :
    Calls Tryd.prog 3 #[.agg #[.int .u8 id, .int .u32 n, .string a, .string b], .int .i64 kd] w fun e w' => e = .returned (.bool true) ∧ Below w.heap.size w w' := by
  have H0 := Lib.hid (fun wx hT => told5_any wx hT)
  have hx := fun wx => rfix_any id n a b 13 wx h8 hn ha hb
  have e9 : fxId id 13 = 0 := by unfold fxId; rw [idsL_no13]; rfl
  rw [e9, fxV_zero] at hx
  have HX := Lib.hid hx
  clear hx e9
  have hB0 := Blk.new w 24 #[.int .u8 id, .int .u32 n, .string a, .string b]
  have HB0 := Lib.hid hB0
  have hK := (Kept.refl No w).alloc (.cells #[.int .u8 id, .int .u32 n, .string a, .string b] 24)
  clear hB0
  go_enter Tryd.func3, Tryd.ntmps3
  go_wp2_with (first
    | (go_at_call 11; refine (HX.out _).mono ?_; rintro e w1 ⟨rfl, hk1⟩; have hK := hK.trans hk1)
    | (go_at_call 10; refine (to_any _ _ _ _ _).mono ?_; rintro e w2 ⟨rfl, hk2⟩; have hK := hK.trans hk2))
  have hK := (hK.alloc (.cells #[.int .u8 0, .int .u32 0, .string ⟨#[]⟩, .string ⟨#[]⟩] 26)).drew
  have hP : Blk _ _ _ _ := (((HB0.out.kept hk1 (fun f => f)).kept hk2 (fun f => f)).alloc (.cells #[.int .u8 0, .int .u32 0, .string ⟨#[]⟩, .string ⟨#[]⟩] 26)).drew
  have hQ : Blk _ _ _ _ := (Blk.new w2 26 #[.int .u8 0, .int .u32 0, .string ⟨#[]⟩, .string ⟨#[]⟩]).drew
  refine wp_region_held_drew (S := (fun wx => (wx.cell? ⟨w.heap.size, 0, none⟩ = some (.int .u8 id) ∧ wx.cell? ⟨w.heap.size, 1, none⟩ = some (.int .u32 n) ∧ wx.cell? ⟨w.heap.size, 2, none⟩ = some (.string a) ∧ wx.cell? ⟨w.heap.size, 3, none⟩ = some (.string b)) ∧ (wx.cell? ⟨w2.heap.size, 0, none⟩ = some (.int .u8 0) ∧ wx.cell? ⟨w2.heap.size, 1, none⟩ = some (.int .u32 0) ∧ wx.cell? ⟨w2.heap.size, 2, none⟩ = some (.string ⟨#[]⟩) ∧ wx.cell? ⟨w2.heap.size, 3, none⟩ = some (.string ⟨#[]⟩)))) (by kernel_rfl) ?_ (fun hHeld => ?_)
  · exact ⟨⟨hP.cell 0, hP.cell 1, hP.cell 2, hP.cell 3⟩, ⟨hQ.cell 0, hQ.cell 1, hQ.cell 2, hQ.cell 3⟩⟩
  refine wpAnyH_ready (rs := [0]) (by kernel_rfl) (by simp) ?_
  refine AllReadyH.cons rfl (fun K9 hK9 => ?_) AllReadyH.nil
  go_simp
  go_wp2_with (go_at_call 12; refine (H0.out _ (hT.kept hK)).mono ?_; rintro e w20 ⟨rfl, hk20⟩; have hK := hK.trans hk20)
  refine hK9.out _ _ ?_ (fun hHeld => ?_)
  · exact ⟨keepB hk20 hHeld.1, keepB hk20 hHeld.2⟩
  clear hK9 K9
  refine wpAnyH_take (i := 1) (v := (.bool true)) rfl (by kernel_rfl) (by kernel_rfl) (by kernel_rfl) (fun _ _ _ h => h) (Or.inl ⟨by rfl, ?hhx1⟩) (by assumption) ?rrx1
  case hhx1 => (intro wz9 hSw; (try dsimp only at hSw); go_simp; try with_reducible rfl)
  go_simp
  refine wpAnyH_take (i := 2) (v := ?vvx2) rfl (by kernel_rfl) (by kernel_rfl) (by kernel_rfl) (fun _ _ _ h => h) (Or.inl ⟨by rfl, ?hhx2⟩) (by assumption) ?rrx2
  case hhx2 => (intro wz9 hSw; (try dsimp only at hSw); go_simp; try with_reducible rfl)
  go_simp
  refine wpAnyH_take (i := 3) (v := ?vvx3) rfl (by kernel_rfl) (by kernel_rfl) (by kernel_rfl) (fun _ _ _ h => h) (Or.inl ⟨by rfl, ?hhx3⟩) (by assumption) ?rrx3
  case hhx3 => (intro wz9 hSw; (try dsimp only at hSw); go_simp; try with_reducible rfl)
  go_simp
  refine wpAnyH_take (i := 4) (v := (.bool true)) rfl (by kernel_rfl) (by kernel_rfl) (by kernel_rfl) (fun _ _ _ h => h) (Or.inl ⟨by rfl, ?hhx4⟩) (by assumption) ?rrx4
  case hhx4 => (intro wz9 hSw; (try dsimp only at hSw); go_simp; try with_reducible rfl)
  go_simp
  refine wpAnyH_take (i := 5) (v := ?vvx5) rfl (by kernel_rfl) (by kernel_rfl) (by kernel_rfl) (fun _ _ _ h => h) (Or.inl ⟨by rfl, ?hhx5⟩) (by assumption) ?rrx5
  case hhx5 => (intro wz9 hSw; (try dsimp only at hSw); go_simp; try with_reducible rfl)
  go_simp
  refine wpAnyH_take (i := 6) (v := (.bool false)) rfl (by kernel_rfl) (by kernel_rfl) (by kernel_rfl) (fun _ _ _ h => h) (Or.inl ⟨by rfl, ?hhx6⟩) (by assumption) ?rrx6
  case hhx6 => (intro wz9 hSw; (try dsimp only at hSw); go_simp; try with_reducible rfl)
  go_simp
  refine wpAnyH_take (i := 7) (v := (.bool false)) rfl (by kernel_rfl) (by kernel_rfl) (by kernel_rfl) (fun _ _ _ h => h) (Or.inl ⟨by rfl, ?hhx7⟩) (by assumption) ?rrx7
  case hhx7 => (intro wz9 hSw; (try dsimp only at hSw); go_simp; try with_reducible rfl)
  go_simp
  refine wpAnyH_take (i := 8) (v := ?vvx8) rfl (by kernel_rfl) (by kernel_rfl) (by kernel_rfl) (fun _ _ _ h => h) (Or.inl ⟨by rfl, ?hhx8⟩) (by assumption) ?rrx8
  case hhx8 => (intro wz9 hSw; (try dsimp only at hSw); go_simp; try with_reducible rfl)
  go_simp
  refine wpAnyH_take (i := 9) (v := (.bool true)) rfl (by kernel_rfl) (by kernel_rfl) (by kernel_rfl) (fun _ _ _ h => h) (Or.inl ⟨by rfl, ?hhx9⟩) (by assumption) ?rrx9
  case hhx9 => (intro wz9 hSw; (try dsimp only at hSw); go_simp; try with_reducible rfl)
  go_simp
  refine wpAnyH_take (i := 10) (v := (.bool true)) rfl (by kernel_rfl) (by kernel_rfl) (by kernel_rfl) (fun _ _ _ h => h) (Or.inl ⟨by rfl, ?hhx10⟩) (by assumption) ?rrx10
  case hhx10 => (intro wz9 hSw; (try dsimp only at hSw); go_simp; try with_reducible rfl)
  go_simp
  refine wpAnyH_take (i := 11) (v := (.bool true)) rfl (by kernel_rfl) (by kernel_rfl) (by kernel_rfl) (fun _ _ _ h => h) (Or.inl ⟨by rfl, ?hhx11⟩) (by assumption) ?rrx11
  case hhx11 => (intro wz9 hSw; (try dsimp only at hSw); go_simp; try with_reducible rfl)
  go_simp
  refine wpAnyH_take (i := 12) (v := (.bool true)) rfl (by kernel_rfl) (by kernel_rfl) (by kernel_rfl) (fun _ _ _ h => h) (Or.inl ⟨by rfl, ?hhx12⟩) (by assumption) ?rrx12
  case hhx12 => (intro wz9 hSw; (try dsimp only at hSw); go_simp; try with_reducible rfl)
  go_simp
  refine wpAnyH_take (i := 13) (v := (.bool true)) rfl (by kernel_rfl) (by kernel_rfl) (by kernel_rfl) (fun _ _ _ h => h) (Or.inl ⟨by rfl, ?hhx13⟩) (by assumption) ?rrx13
  case hhx13 => (intro wz9 hSw; (try dsimp only at hSw); go_simp; try with_reducible rfl)
  go_simp
  refine wpAnyH_take (i := 14) (v := ?vvx14) rfl (by kernel_rfl) (by kernel_rfl) (by kernel_rfl) (fun _ _ _ h => h) (Or.inl ⟨by rfl, ?hhx14⟩) (by assumption) ?rrx14
  case hhx14 => (intro wz9 hSw; (try dsimp only at hSw); go_simp; try with_reducible rfl)
  go_simp
  refine wpAnyH_take (i := 15) (v := ?vvx15) rfl (by kernel_rfl) (by kernel_rfl) (by kernel_rfl) (fun _ _ _ h => h) (Or.inl ⟨by rfl, ?hhx15⟩) (by assumption) ?rrx15
  case hhx15 => (intro wz9 hSw; (try dsimp only at hSw); go_simp; try with_reducible rfl)
  go_simp
  refine wpAnyH_take (i := 16) (v := (.bool true)) rfl (by kernel_rfl) (by kernel_rfl) (by kernel_rfl) (fun _ _ _ h => h) (Or.inl ⟨by rfl, ?hhx16⟩) (by assumption) ?rrx16
  case hhx16 => (intro wz9 hSw; (try dsimp only at hSw); go_simp; try with_reducible rfl)
  go_simp
  refine wpAnyH_take (i := 17) (v := (.bool true)) rfl (by kernel_rfl) (by kernel_rfl) (by kernel_rfl) (fun _ _ _ h => h) (Or.inl ⟨by rfl, ?hhx17⟩) (by assumption) ?rrx17
  case hhx17 => (intro wz9 hSw; (try dsimp only at hSw); go_simp; try with_reducible rfl)
  go_simp
  refine wpAnyH_take (i := 18) (v := undef) rfl (by kernel_rfl) (by kernel_rfl) (by kernel_rfl) (fun _ _ _ h => h) (Or.inr ⟨by rfl, rfl⟩) (by assumption) ?_
  go_simp
  refine wpAnyH_take (i := 19) (v := undef) rfl (by kernel_rfl) (by kernel_rfl) (by kernel_rfl) (fun _ _ _ h => h) (Or.inr ⟨by rfl, rfl⟩) (by assumption) ?_
  go_simp
  refine wpAnyH_take (i := 20) (v := undef) rfl (by kernel_rfl) (by kernel_rfl) (by kernel_rfl) (fun _ _ _ h => h) (Or.inr ⟨by rfl, rfl⟩) (by assumption) ?_
  go_simp
  refine wpAnyH_take (i := 21) (v := undef) rfl (by kernel_rfl) (by kernel_rfl) (by kernel_rfl) (fun _ _ _ h => h) (Or.inr ⟨by rfl, rfl⟩) (by assumption) ?_
  go_simp
  refine wpAnyH_take (i := 22) (v := undef) rfl (by kernel_rfl) (by kernel_rfl) (by kernel_rfl) (fun _ _ _ h => h) (Or.inr ⟨by rfl, rfl⟩) (by assumption) ?_
  go_simp
  refine wpAnyH_take (i := 23) (v := undef) rfl (by kernel_rfl) (by kernel_rfl) (by kernel_rfl) (fun _ _ _ h => h) (Or.inr ⟨by rfl, rfl⟩) (by assumption) ?_
  go_simp
  refine wpAnyH_take (i := 24) (v := undef) rfl (by kernel_rfl) (by kernel_rfl) (by kernel_rfl) (fun _ _ _ h => h) (Or.inr ⟨by rfl, rfl⟩) (by assumption) ?_
  go_simp
  refine wpAnyH_take (i := 25) (v := undef) rfl (by kernel_rfl) (by kernel_rfl) (by kernel_rfl) (fun _ _ _ h => h) (Or.inr ⟨by rfl, rfl⟩) (by assumption) ?_
  go_simp
  refine wpAnyH_take (i := 26) (v := undef) rfl (by kernel_rfl) (by kernel_rfl) (by kernel_rfl) (fun _ _ _ h => h) (Or.inr ⟨by rfl, rfl⟩) (by assumption) ?_
  go_simp
  refine wpAnyH_take (i := 27) (v := undef) rfl (by kernel_rfl) (by kernel_rfl) (by kernel_rfl) (fun _ _ _ h => h) (Or.inr ⟨by rfl, rfl⟩) (by assumption) ?_
  go_simp
  refine wpAnyH_take (i := 28) (v := undef) rfl (by kernel_rfl) (by kernel_rfl) (by kernel_rfl) (fun _ _ _ h => h) (Or.inr ⟨by rfl, rfl⟩) (by assumption) ?_
  go_simp
  refine wpAnyH_take (i := 29) (v := undef) rfl (by kernel_rfl) (by kernel_rfl) (by kernel_rfl) (fun _ _ _ h => h) (Or.inr ⟨by rfl, rfl⟩) (by assumption) ?_
  go_simp
  refine wpAnyH_take (i := 30) (v := undef) rfl (by kernel_rfl) (by kernel_rfl) (by kernel_rfl) (fun _ _ _ h => h) (Or.inr ⟨by rfl, rfl⟩) (by assumption) ?_
  go_simp
  refine wpAnyH_take (i := 31) (v := undef) rfl (by kernel_rfl) (by kernel_rfl) (by kernel_rfl) (fun _ _ _ h => h) (Or.inr ⟨by rfl, rfl⟩) (by assumption) ?_
  go_simp
  refine wpAnyH_take (i := 32) (v := undef) rfl (by kernel_rfl) (by kernel_rfl) (by kernel_rfl) (fun _ _ _ h => h) (Or.inr ⟨by rfl, rfl⟩) (by assumption) ?_
  go_simp
  refine wpAnyH_take (i := 33) (v := undef) rfl (by kernel_rfl) (by kernel_rfl) (by kernel_rfl) (fun _ _ _ h => h) (Or.inr ⟨by rfl, rfl⟩) (by assumption) ?_
  go_simp
  refine wpAnyH_take (i := 34) (v := (.bool true)) rfl (by kernel_rfl) (by kernel_rfl) (by kernel_rfl) (fun _ _ _ h => h) (Or.inl ⟨by rfl, ?hhx34⟩) (by assumption) ?rrx34
  case hhx34 => (intro wz9 hSw; (try dsimp only at hSw); go_simp; try with_reducible rfl)
  go_simp
  refine wpAnyH_take (i := 35) (v := (.bool true)) rfl (by kernel_rfl) (by kernel_rfl) (by kernel_rfl) (fun _ _ _ h => h) (Or.inl ⟨by rfl, ?hhx35⟩) (by assumption) ?rrx35
  case hhx35 => (intro wz9 hSw; (try dsimp only at hSw); go_simp; try with_reducible rfl)
  go_simp
  refine wpAnyH_take (i := 36) (v := (.bool true)) rfl (by kernel_rfl) (by kernel_rfl) (by kernel_rfl) (fun _ _ _ h => h) (Or.inl ⟨by rfl, ?hhx36⟩) (by assumption) ?rrx36
  case hhx36 => (intro wz9 hSw; (try dsimp only at hSw); go_simp; try with_reducible rfl)
  go_simp
  refine wpAnyH_done (by kernel_rfl) ?_ _
  go_wp2
  go_ret
  exact ⟨rfl, hK.below (Nat.le_refl _) (fun _ _ f => f)⟩

set_option maxHeartbeats 8000000 in
theorem propFixes_B (id n : Nat) (a b : ByteArray) (kd : Int) (w : World) (h8 : id < 256) (hn : n < 4294967296) (ha : a.size ≤ 9223372036854775807) (hb : b.size ≤ 9223372036854775807) (m : Nat) (hm16 : m < 16) (h11 : m ≠ 11) (h12 : m ≠ 12) (hm : wrap64 ((IntKind.u64.wrap kd).tmod 16) = (m : Int)) (hT : Tabs w) :
    Calls Tryd.prog 3 #[.agg #[.int .u8 id, .int .u32 n, .string a, .string b], .int .i64 kd] w fun e w' => e = .returned (.bool true) ∧ Below w.heap.size w w' := by
  have H0 := Lib.hid (fun wx hT => told5_any wx hT)
  have hx := fun wx => rfix_any id n a b (1 + (m : Int)) wx h8 hn ha hb
  have hne : idsL (1 + (m : Int)) ≠ [] := fun e => by have := idsL_some ⟨m, hm16⟩ h11 h12; dsimp only at this; rw [e] at this; exact absurd this (by decide)
  obtain ⟨q0, q1, q2, q3, q4⟩ := idsL_mem (fxId_mem (id := id) hne)
  have hval := fx_value (fxId id (1 + (m : Int))) n a b hn q1 q2
  have hNb : fxN (fxId id (1 + (m : Int))) n < 4294967296 := by unfold fxN; split; omega; split; omega; split; (split <;> omega); split <;> omega
  have hAs : (fxA (fxId id (1 + (m : Int))) a).size ≤ 9223372036854775807 ∧ (fxB (fxId id (1 + (m : Int))) b).size ≤ 9223372036854775807 := by
    have h1 := fixS_len a
    have h2 := fixS_len b
    have h3 := (made_fix a).size
    have h4 := cut9_len a
    unfold fxA fxB
    constructor
    · split
      · split <;> omega
      · split
        · omega
        · split
          · omega
          · simp [ByteArray.size]
    · split
      · omega
      · simp [ByteArray.size]
  unfold fxV at hx
  generalize fxId id (1 + (m : Int)) = q at *
  generalize fxN q n = N at *
  generalize fxA q a = A at *
  generalize fxB q b = B at *
  have hv := fun wx hT => pvalue_any q N A B wx hT q1 hNb hAs.1 hAs.2
  rw [hval] at hv
  have hf := fun wx => for_any q (1 + (m : Int)) wx q1
  rw [q4] at hf
  have HV := Lib.hid hv
  have HF := Lib.hid hf
  have HX := Lib.hid hx
  have e1 : ((q : Int) == 0) = false := by simp; omega
  have e2 : ((1 + (m : Int)) == 12) = false := by simp; omega
  have e3 : ((1 + (m : Int)) == 13) = false := by simp; omega
  clear hx hv hf hval hne q2 q3 q4 hAs hNb
  have hB0 := Blk.new w 24 #[.int .u8 id, .int .u32 n, .string a, .string b]
  have HB0 := Lib.hid hB0
  have hK := (Kept.refl No w).alloc (.cells #[.int .u8 id, .int .u32 n, .string a, .string b] 24)
  clear hB0
  go_enter Tryd.func3, Tryd.ntmps3
  go_wp2_with (first
    | (go_at_call 11; refine (HX.out _).mono ?_; rintro e w1 ⟨rfl, hk1⟩; have hK := hK.trans hk1)
    | (go_at_call 10; refine (to_any _ _ _ _ _).mono ?_; rintro e w2 ⟨rfl, hk2⟩; have hK := hK.trans hk2))
  have hK := (hK.alloc (.cells #[.int .u8 q, .int .u32 N, .string A, .string B] 26)).drew
  have hP : Blk _ _ _ _ := (((HB0.out.kept hk1 (fun f => f)).kept hk2 (fun f => f)).alloc (.cells #[.int .u8 q, .int .u32 N, .string A, .string B] 26)).drew
  have hQ : Blk _ _ _ _ := (Blk.new w2 26 #[.int .u8 q, .int .u32 N, .string A, .string B]).drew
  refine wp_region_held_drew (S := (fun wx => (wx.cell? ⟨w.heap.size, 0, none⟩ = some (.int .u8 id) ∧ wx.cell? ⟨w.heap.size, 1, none⟩ = some (.int .u32 n) ∧ wx.cell? ⟨w.heap.size, 2, none⟩ = some (.string a) ∧ wx.cell? ⟨w.heap.size, 3, none⟩ = some (.string b)) ∧ (wx.cell? ⟨w2.heap.size, 0, none⟩ = some (.int .u8 q) ∧ wx.cell? ⟨w2.heap.size, 1, none⟩ = some (.int .u32 N) ∧ wx.cell? ⟨w2.heap.size, 2, none⟩ = some (.string A) ∧ wx.cell? ⟨w2.heap.size, 3, none⟩ = some (.string B)))) (by kernel_rfl) ?_ (fun hHeld => ?_)
  · exact ⟨⟨hP.cell 0, hP.cell 1, hP.cell 2, hP.cell 3⟩, ⟨hQ.cell 0, hQ.cell 1, hQ.cell 2, hQ.cell 3⟩⟩
  refine wpAnyH_ready (rs := [0]) (by kernel_rfl) (by simp) ?_
  refine AllReadyH.cons rfl (fun K9 hK9 => ?_) AllReadyH.nil
  go_simp
  go_wp2_with (go_at_call 12; refine (H0.out _ (hT.kept hK)).mono ?_; rintro e w20 ⟨rfl, hk20⟩; have hK := hK.trans hk20)
  refine hK9.out _ _ ?_ (fun hHeld => ?_)
  · exact ⟨keepB hk20 hHeld.1, keepB hk20 hHeld.2⟩
  clear hK9 K9
  refine wpAnyH_take (i := 1) (v := (.bool true)) rfl (by kernel_rfl) (by kernel_rfl) (by kernel_rfl) (fun _ _ _ h => h) (Or.inl ⟨by rfl, ?hhx1⟩) (by assumption) ?rrx1
  case hhx1 => (intro wz9 hSw; (try dsimp only at hSw); go_simp; try with_reducible rfl)
  go_simp
  refine wpAnyH_take (i := 2) (v := ?vvx2) rfl (by kernel_rfl) (by kernel_rfl) (by kernel_rfl) (fun _ _ _ h => h) (Or.inl ⟨by rfl, ?hhx2⟩) (by assumption) ?rrx2
  case hhx2 => (intro wz9 hSw; (try dsimp only at hSw); go_simp; try with_reducible rfl)
  go_simp
  refine wpAnyH_take (i := 3) (v := ?vvx3) rfl (by kernel_rfl) (by kernel_rfl) (by kernel_rfl) (fun _ _ _ h => h) (Or.inl ⟨by rfl, ?hhx3⟩) (by assumption) ?rrx3
  case hhx3 => (intro wz9 hSw; (try dsimp only at hSw); go_simp; try with_reducible rfl)
  go_simp
  refine wpAnyH_take (i := 4) (v := (.bool false)) rfl (by kernel_rfl) (by kernel_rfl) (by kernel_rfl) (fun _ _ _ h => h) (Or.inl ⟨by rfl, ?hhx4⟩) (by assumption) ?rrx4
  case hhx4 => (intro wz9 hSw; (try dsimp only at hSw); go_simp; try with_reducible rfl)
  go_simp
  refine wpAnyH_take (i := 5) (v := ?vvx5) rfl (by kernel_rfl) (by kernel_rfl) (by kernel_rfl) (fun _ _ _ h => h) (Or.inl ⟨by rfl, ?hhx5⟩) (by assumption) ?rrx5
  case hhx5 => (intro wz9 hSw; (try dsimp only at hSw); go_simp; try with_reducible rfl)
  go_simp
  refine wpAnyH_take (i := 6) (v := (.bool false)) rfl (by kernel_rfl) (by kernel_rfl) (by kernel_rfl) (fun _ _ _ h => h) (Or.inl ⟨by rfl, ?hhx6⟩) (by assumption) ?rrx6
  case hhx6 => (intro wz9 hSw; (try dsimp only at hSw); go_simp; try with_reducible rfl)
  go_simp
  refine wpAnyH_take (i := 7) (v := (.bool false)) rfl (by kernel_rfl) (by kernel_rfl) (by kernel_rfl) (fun _ _ _ h => h) (Or.inl ⟨by rfl, ?hhx7⟩) (by assumption) ?rrx7
  case hhx7 => (intro wz9 hSw; (try dsimp only at hSw); go_simp; try with_reducible rfl)
  go_simp
  refine wpAnyH_take (i := 8) (v := ?vvx8) rfl (by kernel_rfl) (by kernel_rfl) (by kernel_rfl) (fun _ _ _ h => h) (Or.inl ⟨by rfl, ?hhx8⟩) (by assumption) ?rrx8
  case hhx8 => (intro wz9 hSw; (try dsimp only at hSw); go_simp; try with_reducible rfl)
  go_simp
  refine wpAnyH_take (i := 9) (v := (.bool false)) rfl (by kernel_rfl) (by kernel_rfl) (by kernel_rfl) (fun _ _ _ h => h) (Or.inl ⟨by rfl, ?hhx9⟩) (by assumption) ?rrx9
  case hhx9 => (intro wz9 hSw; (try dsimp only at hSw); go_simp; try with_reducible rfl)
  go_simp
  refine wpAnyH_take (i := 10) (v := (.bool false)) rfl (by kernel_rfl) (by kernel_rfl) (by kernel_rfl) (fun _ _ _ h => h) (Or.inl ⟨by rfl, ?hhx10⟩) (by assumption) ?rrx10
  case hhx10 => (intro wz9 hSw; (try dsimp only at hSw); go_simp; try with_reducible rfl)
  go_simp
  refine wpAnyH_take (i := 11) (v := (.bool true)) rfl (by kernel_rfl) (by kernel_rfl) (by kernel_rfl) (fun _ _ _ h => h) (Or.inl ⟨by rfl, ?hhx11⟩) (by assumption) ?rrx11
  case hhx11 => (intro wz9 hSw; (try dsimp only at hSw); go_simp; try with_reducible rfl)
  go_simp
  refine wpAnyH_take (i := 12) (v := (.bool true)) rfl (by kernel_rfl) (by kernel_rfl) (by kernel_rfl) (fun _ _ _ h => h) (Or.inl ⟨by rfl, ?hhx12⟩) (by assumption) ?rrx12
  case hhx12 => (intro wz9 hSw; (try dsimp only at hSw); go_simp; try with_reducible rfl)
  go_simp
  refine wpAnyH_take (i := 13) (v := (.bool true)) rfl (by kernel_rfl) (by kernel_rfl) (by kernel_rfl) (fun _ _ _ h => h) (Or.inl ⟨by rfl, ?hhx13⟩) (by assumption) ?rrx13
  case hhx13 => (intro wz9 hSw; (try dsimp only at hSw); go_simp; try with_reducible rfl)
  go_simp
  refine wpAnyH_take (i := 14) (v := ?vvx14) rfl (by kernel_rfl) (by kernel_rfl) (by kernel_rfl) (fun _ _ _ h => h) (Or.inl ⟨by rfl, ?hhx14⟩) (by assumption) ?rrx14
  case hhx14 => (intro wz9 hSw; (try dsimp only at hSw); go_simp; try with_reducible rfl)
  go_simp
  refine wpAnyH_take (i := 15) (v := ?vvx15) rfl (by kernel_rfl) (by kernel_rfl) (by kernel_rfl) (fun _ _ _ h => h) (Or.inl ⟨by rfl, ?hhx15⟩) (by assumption) ?rrx15
  case hhx15 => (intro wz9 hSw; (try dsimp only at hSw); go_simp; try with_reducible rfl)
  go_simp
  refine wpAnyH_take (i := 16) (v := (.bool false)) rfl (by kernel_rfl) (by kernel_rfl) (by kernel_rfl) (fun _ _ _ h => h) (Or.inl ⟨by rfl, ?hhx16⟩) (by assumption) ?rrx16
  case hhx16 => (intro wz9 hSw; (try dsimp only at hSw); go_simp; try with_reducible rfl)
  go_simp
  refine wpAnyH_take (i := 17) (v := (.bool false)) rfl (by kernel_rfl) (by kernel_rfl) (by kernel_rfl) (fun _ _ _ h => h) (Or.inl ⟨by rfl, ?hhx17⟩) (by assumption) ?rrx17
  case hhx17 => (intro wz9 hSw; (try dsimp only at hSw); go_simp; try with_reducible rfl)
  go_simp
  refine wpAnyH_take (i := 18) (v := (.agg #[.int .u8 q, .int .u32 N, .string A, .string B])) rfl (by kernel_rfl) (by kernel_rfl) (by kernel_rfl) (fun _ _ _ h => h) (Or.inl ⟨by rfl, ?hhx18⟩) (by assumption) ?rrx18
  case hhx18 => (intro wz9 hSw; (try dsimp only at hSw); go_simp; try with_reducible rfl)
  go_simp
  refine wpAnyH_ready (rs := [19]) (by kernel_rfl) (by simp) ?_
  refine AllReadyH.cons rfl (fun K9 hK9 => ?_) AllReadyH.nil
  go_simp
  go_wp2_with (go_at_call 13; refine (HV.out _ (hT.kept hK)).mono ?_; rintro e w21 ⟨rfl, hk21⟩; have hK := hK.trans hk21)
  refine hK9.out _ _ ?_ (fun hHeld => ?_)
  · exact ⟨keepB hk21 hHeld.1, keepB hk21 hHeld.2⟩
  clear hK9 K9
  refine wpAnyH_take (i := 20) (v := (.bool true)) rfl (by kernel_rfl) (by kernel_rfl) (by kernel_rfl) (fun _ _ _ h => h) (Or.inl ⟨by rfl, ?hhx20⟩) (by assumption) ?rrx20
  case hhx20 => (intro wz9 hSw; (try dsimp only at hSw); go_simp; try with_reducible rfl)
  go_simp
  refine wpAnyH_take (i := 21) (v := ?vvx21) rfl (by kernel_rfl) (by kernel_rfl) (by kernel_rfl) (fun _ _ _ h => h) (Or.inl ⟨by rfl, ?hhx21⟩) (by assumption) ?rrx21
  case hhx21 => (intro wz9 hSw; (try dsimp only at hSw); go_simp; try with_reducible rfl)
  go_simp
  refine wpAnyH_take (i := 22) (v := ?vvx22) rfl (by kernel_rfl) (by kernel_rfl) (by kernel_rfl) (fun _ _ _ h => h) (Or.inl ⟨by rfl, ?hhx22⟩) (by assumption) ?rrx22
  case hhx22 => (intro wz9 hSw; (try dsimp only at hSw); go_simp; try with_reducible rfl)
  go_simp
  refine wpAnyH_take (i := 23) (v := ?vvx23) rfl (by kernel_rfl) (by kernel_rfl) (by kernel_rfl) (fun _ _ _ h => h) (Or.inl ⟨by rfl, ?hhx23⟩) (by assumption) ?rrx23
  case hhx23 => (intro wz9 hSw; (try dsimp only at hSw); go_simp; try with_reducible rfl)
  go_simp
  refine wpAnyH_ready (rs := [24]) (by kernel_rfl) (by simp) ?_
  refine AllReadyH.cons rfl (fun K9 hK9 => ?_) AllReadyH.nil
  go_simp
  go_wp2_with (go_at_call 14; refine (HF.out _).mono ?_; rintro e w22 ⟨rfl, hk22⟩; have hK := hK.trans hk22)
  refine hK9.out _ _ ?_ (fun hHeld => ?_)
  · exact ⟨keepB hk22 hHeld.1, keepB hk22 hHeld.2⟩
  clear hK9 K9
  refine wpAnyH_take (i := 25) (v := (.bool true)) rfl (by kernel_rfl) (by kernel_rfl) (by kernel_rfl) (fun _ _ _ h => h) (Or.inl ⟨by rfl, ?hhx25⟩) (by assumption) ?rrx25
  case hhx25 => (intro wz9 hSw; (try dsimp only at hSw); go_simp; try with_reducible rfl)
  go_simp
  refine wpAnyH_take (i := 26) (v := (.bool true)) rfl (by kernel_rfl) (by kernel_rfl) (by kernel_rfl) (fun _ _ _ h => h) (Or.inl ⟨by rfl, ?hhx26⟩) (by assumption) ?rrx26
  case hhx26 => (intro wz9 hSw; (try dsimp only at hSw); go_simp; try with_reducible rfl)
  go_simp
  refine wpAnyH_take (i := 27) (v := (.agg #[.int .u8 q, .int .u32 N, .string A, .string B])) rfl (by kernel_rfl) (by kernel_rfl) (by kernel_rfl) (fun _ _ _ h => h) (Or.inl ⟨by rfl, ?hhx27⟩) (by assumption) ?rrx27
  case hhx27 => (intro wz9 hSw; (try dsimp only at hSw); go_simp; try with_reducible rfl)
  go_simp
  refine wpAnyH_take (i := 29) (v := (.agg #[.int .u8 id, .int .u32 n, .string a, .string b])) rfl (by kernel_rfl) (by kernel_rfl) (by kernel_rfl) (fun _ _ _ h => h) (Or.inl ⟨by rfl, ?hhx29⟩) (by assumption) ?rrx29
  case hhx29 => (intro wz9 hSw; (try dsimp only at hSw); go_simp; try with_reducible rfl)
  go_simp
  refine wpAnyH_take (i := 30) (v := ?vvx30) rfl (by kernel_rfl) (by kernel_rfl) (by kernel_rfl) (fun _ _ _ h => h) (Or.inl ⟨by rfl, ?hhx30⟩) (by assumption) ?rrx30
  case hhx30 => (intro wz9 hSw; (try dsimp only at hSw); go_simp; try with_reducible rfl)
  go_simp
  refine wpAnyH_ready (rs := [28]) (by kernel_rfl) (by simp) ?_
  refine AllReadyH.cons rfl (fun K9 hK9 => ?_) AllReadyH.nil
  go_simp
  go_wp2_with (go_at_call 15; refine (from_any _ _ _ _ _).mono ?_; rintro e w23 ⟨rfl, hk23⟩; have hK := hK.trans hk23)
  refine hK9.out _ _ ?_ (fun hHeld => ?_)
  · exact ⟨keepB hk23 hHeld.1, keepB hk23 hHeld.2⟩
  clear hK9 K9
  refine wpAnyH_ready (rs := [31]) (by kernel_rfl) (by simp) ?_
  refine AllReadyH.cons rfl (fun K9 hK9 => ?_) AllReadyH.nil
  go_simp
  go_wp2_with (go_at_call 11; refine (HX.out _).mono ?_; rintro e w24 ⟨rfl, hk24⟩; have hK := hK.trans hk24)
  refine hK9.out _ _ ?_ (fun hHeld => ?_)
  · exact ⟨keepB hk24 hHeld.1, keepB hk24 hHeld.2⟩
  clear hK9 K9
  refine wpAnyH_take (i := 32) (v := (.bool true)) rfl (by kernel_rfl) (by kernel_rfl) (by kernel_rfl) (fun _ _ _ h => h) (Or.inl ⟨by rfl, ?hhx32⟩) (by assumption) ?rrx32
  case hhx32 => (intro wz9 hSw; (try dsimp only at hSw); go_simp; try with_reducible rfl)
  go_simp
  refine wpAnyH_take (i := 33) (v := (.bool true)) rfl (by kernel_rfl) (by kernel_rfl) (by kernel_rfl) (fun _ _ _ h => h) (Or.inl ⟨by rfl, ?hhx33⟩) (by assumption) ?rrx33
  case hhx33 => (intro wz9 hSw; (try dsimp only at hSw); go_simp; try with_reducible rfl)
  go_simp
  refine wpAnyH_take (i := 34) (v := (.bool true)) rfl (by kernel_rfl) (by kernel_rfl) (by kernel_rfl) (fun _ _ _ h => h) (Or.inl ⟨by rfl, ?hhx34⟩) (by assumption) ?rrx34
  case hhx34 => (intro wz9 hSw; (try dsimp only at hSw); go_simp; try with_reducible rfl)
  go_simp
  refine wpAnyH_take (i := 35) (v := (.bool true)) rfl (by kernel_rfl) (by kernel_rfl) (by kernel_rfl) (fun _ _ _ h => h) (Or.inl ⟨by rfl, ?hhx35⟩) (by assumption) ?rrx35
  case hhx35 => (intro wz9 hSw; (try dsimp only at hSw); go_simp; try with_reducible rfl)
  go_simp
  refine wpAnyH_take (i := 36) (v := (.bool true)) rfl (by kernel_rfl) (by kernel_rfl) (by kernel_rfl) (fun _ _ _ h => h) (Or.inl ⟨by rfl, ?hhx36⟩) (by assumption) ?rrx36
  case hhx36 => (intro wz9 hSw; (try dsimp only at hSw); go_simp; try with_reducible rfl)
  go_simp
  refine wpAnyH_done (by kernel_rfl) ?_ _
  go_wp2
  go_ret
  exact ⟨rfl, hK.below (Nat.le_refl _) (fun _ _ f => f)⟩

theorem propFixes_walk (x0 x1 : Int) (a b : ByteArray) (kd : Int) (w : World) (w0 : (Lit.int .u8 x0).wf = true) (w1 : (Lit.int .u32 x1).wf = true) (w2 : a.size ≤ maxLen) (w3 : b.size ≤ maxLen) (w4 : (Lit.int .i64 kd).wf = true) (hT : Tabs w) :
    Calls Tryd.prog 3 #[.agg #[.int .u8 x0, .int .u32 x1, .string a, .string b], .int .i64 kd] w fun e w' => e = .returned (.bool true) ∧ Below w.heap.size w w' := by
  unfold maxLen at w2 w3
  have hb0 := bounds_u8 w0
  have hb1 := bounds_u32 w1
  obtain ⟨id, rfl⟩ := Int.eq_ofNat_of_zero_le hb0.1
  obtain ⟨n, rfl⟩ := Int.eq_ofNat_of_zero_le hb1.1
  obtain ⟨m, hm, hm16⟩ := law_mod kd 16 (by omega) (by omega)
  by_cases h11 : m = 11
  · subst h11; exact propFixes_A12 id n a b kd w (by omega) (by omega) w2 w3 hm hT
  · by_cases h12 : m = 12
    · subst h12; exact propFixes_A13 id n a b kd w (by omega) (by omega) w2 w3 hm hT
    · exact propFixes_B id n a b kd w (by omega) (by omega) w2 w3 m (by omega) h11 h12 hm hT

end Go.Proofs.YtlabkbdnknmngaaDoor
