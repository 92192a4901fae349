/-
  Contracts of package props: size, lay.
-/
import Derived.Test.YtfhcmmmgnkinoaaDoorPxM
import Derived.Deep.RegionHeld3
namespace Go.Proofs.YtfhcmmmgnkinoaaDoor
open Go.RowKit
set_option linter.unusedVariables false
set_option linter.unusedSimpArgs false
set_option maxRecDepth 100000

set_option maxHeartbeats 4000000 in
theorem size_any (id n : Nat) (a b : ByteArray) (w : World) (hn : n < 4294967296) (ha : a.size ≤ 9223372036854) (hb : b.size ≤ 9223372036854) :
    Calls Tryd.prog 80 #[.agg #[.int .u8 id, .int .u32 n, .string a, .string b]] w fun e w' => e = .returned (.int .i64 (szP id n a b)) ∧ Kept No w w' := by
  have cT := type_any id
  have ht := typL_le id
  have hv := varL_size n hn
  have hvl := varL_le n
  unfold szP
  generalize typL id = t at *
  generalize (varL n).length = z at *
  have HT := Lib.hid cT
  have HV := Lib.hid hv
  clear cT hv
  rcases (show t = 0 ∨ t = 1 ∨ t = 2 ∨ t = 3 ∨ t = 4 ∨ t = 5 ∨ t = 6 ∨ t = 7 from by omega) with rfl | rfl | rfl | rfl | rfl | rfl | rfl | rfl
  all_goals
    go_enter Tryd.func80, Tryd.ntmps80
    go_wp2_with (first
      | (go_at_call 82; refine (HT.out _).mono ?_; rintro e w1 ⟨rfl, rfl⟩)
      | (go_at_call 51; refine (HV.out _).mono ?_; rintro e w1 ⟨rfl, rfl⟩))
    go_ret
    exact ⟨by simp <;> rfl, (Kept.refl No w).alloc _⟩
/-! lay -/
/-- What a property's texts and type are where it is Right. -/
structure Fits (id n : Nat) (a b : ByteArray) : Prop where
  hid : id < 256
  hn : n < 4294967296
  ha : a.size ≤ 65535
  hb : b.size ≤ 65535
  ht : 1 ≤ typL id
set_option maxHeartbeats 4000000 in
theorem lay_any (id n : Nat) (a b : ByteArray) (w : World) (hf : Fits id n a b) :
    Calls Tryd.prog 46 #[.agg #[.int .u8 id, .int .u32 n, .string a, .string b]] w (Lays w (layP id n a b)) := by
  obtain ⟨h8, hn, ha, hb, ht1⟩ := hf
  have cT := type_any id
  have ht := typL_le id
  unfold layP
  generalize typL id = t at *
  have HT := Lib.hid cT
  clear cT
  have hB0 := Blk.new w 55 #[.int .u8 id, .int .u32 n, .string a, .string b]
  have HB0 := Lib.hid hB0
  have hk0 := (Kept.refl No w).alloc (.cells #[.int .u8 id, .int .u32 n, .string a, .string b] 55)
  have H1 := Lib.hid (fun wx => byte_any none 0 [] id wx (by omega) (by omega) (Row.nil _ _) (fun _ => ⟨rfl, rfl⟩) (by simp))
  have hL1 : ([] ++ [byteOf id] : List UInt8).length ≤ 10 := by simp
  rw [show ([byteOf (id : Int)] : List UInt8) = [] ++ [byteOf (id : Int)] from rfl]
  generalize ([] ++ [byteOf (id : Int)] : List UInt8) = l at *
  clear hB0
  rcases (show t = 1 ∨ t = 2 ∨ t = 3 ∨ t = 4 ∨ t = 5 ∨ t = 6 ∨ t = 7 from by omega) with rfl | rfl | rfl | rfl | rfl | rfl | rfl
  · go_enter Tryd.func46, Tryd.ntmps46
    go_wp2_with fail
    go_at_call 81
    refine (H1.out _).mono ?_; rintro e w1 ⟨g, cap, rfl, hg, hown1, hk1⟩
    have hr1 := Row.of_own hown1; have q0 := (HB0.out.kept hk1 (fun f => f)).cell 0; have q1 := (HB0.out.kept hk1 (fun f => f)).cell 1; have q2 := (HB0.out.kept hk1 (fun f => f)).cell 2; have q3 := (HB0.out.kept hk1 (fun f => f)).cell 3; simp at q0 q1 q2 q3
    go_wp2_with (go_at_call 82; refine (HT.out _).mono ?_; rintro e w2 ⟨rfl, rfl⟩)
    go_at_call 81
    refine (byteX _ _ _ n _ hr1 (by simp) (by omega)).mono ?_; rintro e w3 ⟨g2, c2, rfl, hg2, hown2, hk2⟩
    go_wp2
    go_ret
    exact Lays.from (w := w1) ⟨g2, c2, rfl, hg2, hown2, hk2⟩ (hk0.trans hk1)
  · go_enter Tryd.func46, Tryd.ntmps46
    go_wp2_with (first
      | (go_at_call 83; refine (twoX _ _ _ n _ hr1 (by simp) (by omega)).mono ?_; rintro e w3 ⟨g2, c2, rfl, hg2, hown2, hk2⟩)
      | (go_at_call 81; refine (H1.out _).mono ?_; rintro e w1 ⟨g, cap, rfl, hg, hown1, hk1⟩; have hr1 := Row.of_own hown1; have q0 := (HB0.out.kept hk1 (fun f => f)).cell 0; have q1 := (HB0.out.kept hk1 (fun f => f)).cell 1; have q2 := (HB0.out.kept hk1 (fun f => f)).cell 2; have q3 := (HB0.out.kept hk1 (fun f => f)).cell 3; simp at q0 q1 q2 q3)
      | (go_at_call 82; refine (HT.out _).mono ?_; rintro e w2 ⟨rfl, rfl⟩))
    go_ret
    exact Lays.from (w := w1) ⟨g2, c2, rfl, hg2, hown2, hk2⟩ (hk0.trans hk1)
  · go_enter Tryd.func46, Tryd.ntmps46
    go_wp2_with (first
      | (go_at_call 84; refine (fourX _ _ _ n _ (by omega) hr1 (by simp) (by omega)).mono ?_; rintro e w3 ⟨g2, c2, rfl, hg2, hown2, hk2⟩)
      | (go_at_call 81; refine (H1.out _).mono ?_; rintro e w1 ⟨g, cap, rfl, hg, hown1, hk1⟩; have hr1 := Row.of_own hown1; have q0 := (HB0.out.kept hk1 (fun f => f)).cell 0; have q1 := (HB0.out.kept hk1 (fun f => f)).cell 1; have q2 := (HB0.out.kept hk1 (fun f => f)).cell 2; have q3 := (HB0.out.kept hk1 (fun f => f)).cell 3; simp at q0 q1 q2 q3)
      | (go_at_call 82; refine (HT.out _).mono ?_; rintro e w2 ⟨rfl, rfl⟩))
    go_ret
    exact Lays.from (w := w1) ⟨g2, c2, rfl, hg2, hown2, hk2⟩ (hk0.trans hk1)
  · go_enter Tryd.func46, Tryd.ntmps46
    go_wp2_with (first
      | (go_at_call 45; refine (varX _ _ _ n _ (by omega) hr1 (by simp) (by omega)).mono ?_; rintro e w3 ⟨g2, c2, rfl, hg2, hown2, hk2⟩)
      | (go_at_call 81; refine (H1.out _).mono ?_; rintro e w1 ⟨g, cap, rfl, hg, hown1, hk1⟩; have hr1 := Row.of_own hown1; have q0 := (HB0.out.kept hk1 (fun f => f)).cell 0; have q1 := (HB0.out.kept hk1 (fun f => f)).cell 1; have q2 := (HB0.out.kept hk1 (fun f => f)).cell 2; have q3 := (HB0.out.kept hk1 (fun f => f)).cell 3; simp at q0 q1 q2 q3)
      | (go_at_call 82; refine (HT.out _).mono ?_; rintro e w2 ⟨rfl, rfl⟩))
    go_ret
    exact Lays.from (w := w1) ⟨g2, c2, rfl, hg2, hown2, hk2⟩ (hk0.trans hk1)
  · go_enter Tryd.func46, Tryd.ntmps46
    go_wp2_with (first
      | (go_at_call 85; refine (binX _ _ _ a _ ha hr1 (by simp) (by omega)).mono ?_; rintro e w3 ⟨g2, c2, rfl, hg2, hown2, hk2⟩)
      | (go_at_call 81; refine (H1.out _).mono ?_; rintro e w1 ⟨g, cap, rfl, hg, hown1, hk1⟩; have hr1 := Row.of_own hown1; have q0 := (HB0.out.kept hk1 (fun f => f)).cell 0; have q1 := (HB0.out.kept hk1 (fun f => f)).cell 1; have q2 := (HB0.out.kept hk1 (fun f => f)).cell 2; have q3 := (HB0.out.kept hk1 (fun f => f)).cell 3; simp at q0 q1 q2 q3)
      | (go_at_call 82; refine (HT.out _).mono ?_; rintro e w2 ⟨rfl, rfl⟩))
    go_ret
    exact Lays.from (w := w1) ⟨g2, c2, rfl, hg2, hown2, hk2⟩ (hk0.trans hk1)
  · go_enter Tryd.func46, Tryd.ntmps46
    go_wp2_with (first
      | (go_at_call 85; refine (binX _ _ _ a _ ha hr1 (by simp) (by omega)).mono ?_; rintro e w3 ⟨g2, c2, rfl, hg2, hown2, hk2⟩)
      | (go_at_call 81; refine (H1.out _).mono ?_; rintro e w1 ⟨g, cap, rfl, hg, hown1, hk1⟩; have hr1 := Row.of_own hown1; have q0 := (HB0.out.kept hk1 (fun f => f)).cell 0; have q1 := (HB0.out.kept hk1 (fun f => f)).cell 1; have q2 := (HB0.out.kept hk1 (fun f => f)).cell 2; have q3 := (HB0.out.kept hk1 (fun f => f)).cell 3; simp at q0 q1 q2 q3)
      | (go_at_call 82; refine (HT.out _).mono ?_; rintro e w2 ⟨rfl, rfl⟩))
    go_ret
    exact Lays.from (w := w1) ⟨g2, c2, rfl, hg2, hown2, hk2⟩ (hk0.trans hk1)
  · go_enter Tryd.func46, Tryd.ntmps46
    go_wp2_with (first
      | (go_at_call 81; refine (H1.out _).mono ?_; rintro e w1 ⟨g, cap, rfl, hg, hown1, hk1⟩; have hr1 := Row.of_own hown1; have q0 := (HB0.out.kept hk1 (fun f => f)).cell 0; have q1 := (HB0.out.kept hk1 (fun f => f)).cell 1; have q2 := (HB0.out.kept hk1 (fun f => f)).cell 2; have q3 := (HB0.out.kept hk1 (fun f => f)).cell 3; simp at q0 q1 q2 q3)
      | (go_at_call 82; refine (HT.out _).mono ?_; rintro e w2 ⟨rfl, rfl⟩))
    have hQ := HB0.out.kept hk1 (fun f => f)
    have hA3 : (addBin l a).length ≤ 100000 := by rw [addBin_len]; omega
    have HA3 := Lib.hid hA3
    clear hA3 q0 q1 q2 q3
    refine wp_region_held_drew (S := (fun wx => wx.cell? ⟨w.heap.size, 2, none⟩ = some (.string a) ∧ wx.cell? ⟨w.heap.size, 3, none⟩ = some (.string b))) (by kernel_rfl) ?_ (fun hHeld => ?_)
    · exact ⟨hQ.drew.cell 2, hQ.drew.cell 3⟩
    refine wpAnyH_take (i := 0) (v := ?vvz0) rfl (by kernel_rfl) (by kernel_rfl) (by kernel_rfl) (fun _ _ _ h => h) (Or.inl ⟨by rfl, ?hhz0⟩) (by assumption) ?rrz0
    case hhz0 => (intro wz9 hSw; (try dsimp only at hSw); go_simp; try with_reducible rfl)
    go_simp
    refine wpAnyH_take (i := 1) (v := ?vvz1) rfl (by kernel_rfl) (by kernel_rfl) (by kernel_rfl) (fun _ _ _ h => h) (Or.inl ⟨by rfl, ?hhz1⟩) (by assumption) ?rrz1
    case hhz1 => (intro wz9 hSw; (try dsimp only at hSw); go_simp; try with_reducible rfl)
    go_simp
    refine wpAnyH_take (i := 2) (v := ?vvz2) rfl (by kernel_rfl) (by kernel_rfl) (by kernel_rfl) (fun _ _ _ h => h) (Or.inl ⟨by rfl, ?hhz2⟩) (by assumption) ?rrz2
    case hhz2 => (intro wz9 hSw; (try dsimp only at hSw); go_simp; try with_reducible rfl)
    go_simp
    refine wpAnyH_take (i := 4) (v := ?vvz4) rfl (by kernel_rfl) (by kernel_rfl) (by kernel_rfl) (fun _ _ _ h => h) (Or.inl ⟨by rfl, ?hhz4⟩) (by assumption) ?rrz4
    case hhz4 => (intro wz9 hSw; (try dsimp only at hSw); go_simp; try with_reducible rfl)
    go_simp
    refine wpAnyH_take (i := 5) (v := ?vvz5) rfl (by kernel_rfl) (by kernel_rfl) (by kernel_rfl) (fun _ _ _ h => h) (Or.inl ⟨by rfl, ?hhz5⟩) (by assumption) ?rrz5
    case hhz5 => (intro wz9 hSw; (try dsimp only at hSw); go_simp; try with_reducible rfl)
    go_simp
    refine wpAnyH_ready (rs := [3]) (by kernel_rfl) (by simp) ?_
    refine AllReadyH.cons rfl (fun K9 hK9 => ?_) AllReadyH.nil
    go_simp
    go_wp2_with (go_at_call 85; refine (binX _ _ _ a _ ha (hr1.keptNo ((Kept.refl No w1).drew)) (by simp) (by omega)).mono ?_; rintro e w3 ⟨g3, c3, rfl, hg3, hown3, hk3⟩; have hQ3 := hQ.drew.kept hk3 (fun f => f))
    refine hK9.out _ _ ?_ (fun hHeld => ?_)
    · exact ⟨hQ3.cell 2, hQ3.cell 3⟩
    clear hK9 K9
    refine wpAnyH_ready (rs := [6]) (by kernel_rfl) (by simp) ?_
    refine AllReadyH.cons rfl (fun K9 hK9 => ?_) AllReadyH.nil
    go_simp
    go_wp2_with (go_at_call 85; refine (binX _ _ _ b _ hb (Row.of_own hown3) (by simp) HA3.out).mono ?_; rintro e w4 ⟨g2, c2, rfl, hg2, hown2, hk2⟩; have hQ4 := hQ3.kept hk2 (fun f => f))
    refine hK9.out _ _ ?_ (fun hHeld => ?_)
    · exact ⟨hQ4.cell 2, hQ4.cell 3⟩
    clear hK9 K9
    refine wpAnyH_take (i := 7) (v := ?vvz7) rfl (by kernel_rfl) (by kernel_rfl) (by kernel_rfl) (fun _ _ _ h => h) (Or.inl ⟨by rfl, ?hhz7⟩) (by assumption) ?rrz7
    case hhz7 => (intro wz9 hSw; (try dsimp only at hSw); go_simp; try with_reducible rfl)
    go_simp
    refine wpAnyH_done (by kernel_rfl) ?_ _
    go_wp2
    go_ret
    exact Lays.from (w := w3) ⟨g2, c2, rfl, hg2, hown2, hk2⟩ ((hk0.trans hk1).drew.trans hk3)

end Go.Proofs.YtfhcmmmgnkinoaaDoor
