/-
  The walk of TextFours.
-/
import Derived.Test.YtfkddmdoepiikabDoorJoins3
import Derived.Test.YtfkddmdoepiikabDoorText4
import Derived.Deep.DeepCutAuto
namespace Go.Proofs.YtfkddmdoepiikabDoor
open Go.RowKit
set_option linter.unusedVariables false
set_option linter.unusedSimpArgs false

theorem right_v (s : ByteArray) (b : Bool) (hb : Hid (okText s = b)) (w : World) (hs : s.size ≤ 70000) (hT : Tabs w) :
    Calls Tryd.prog 8 #[.string s] w fun e w' => e = .returned (.bool b) ∧ Kept No w w' := by
  have := right_any s w (by omega) hT
  rwa [hb.out] at this
theorem refRight_v (s : ByteArray) (b : Bool) (hb : Hid (okText s = b)) (w : World) (hs : s.size ≤ 70000) :
    Calls Tryd.prog 9 #[.string s] w fun e w' => e = .returned (.bool b) ∧ w = w' := by
  have := refRight_any s w (by omega)
  rwa [hb.out] at this
theorem refRunes_v (s : ByteArray) (n : Int) (hb : Hid (refRunes s = n)) (w : World) (hs : s.size ≤ 70000) :
    Calls Tryd.prog 11 #[.string s] w fun e w' => e = .returned (.int .i64 n) ∧ w = w' := by
  have := refRunes_any s w (by omega)
  rwa [hb.out] at this

set_option maxRecDepth 100000 in
set_option maxHeartbeats 1000000 in
theorem textFours_walk (b0 b1 b2 b3 : Int) (w : World) (w0 : (Lit.int .u8 b0).wf = true) (w1 : (Lit.int .u8 b1).wf = true) (w2 : (Lit.int .u8 b2).wf = true) (w3 : (Lit.int .u8 b3).wf = true) (hT : Tabs w) :
    Calls Tryd.prog 4 #[.agg #[.int .u8 b0, .int .u8 b1, .int .u8 b2, .int .u8 b3]] w fun e w' => e = .returned (.bool true) ∧ Below w.heap.size w w' := by
  have g0 := bounds_u8 w0
  have g1 := bounds_u8 w1
  have g2 := bounds_u8 w2
  have g3 := bounds_u8 w3
  have hl : B8 [byteOf b0, byteOf b1, byteOf b2, byteOf b3] = [.int .u8 b0, .int .u8 b1, .int .u8 b2, .int .u8 b3] := by
    rw [B8_cons g0.1 g0.2, B8_cons g1.1 g1.2, B8_cons g2.1 g2.2, B8_cons g3.1 g3.2]; rfl
  have hrow : ∀ t : TypeId, Row (w.alloc (.cells #[.int .u8 b0, .int .u8 b1, .int .u8 b2, .int .u8 b3] t)) (some ⟨w.heap.size, 0, none⟩) (B8 [byteOf b0, byteOf b1, byteOf b2, byteOf b3]) := fun t => by
    rw [hl]; exact .of_cells (new_at rfl)
  have hcv := fun wx (h : Row wx (some ⟨w.heap.size, 0, none⟩) (B8 [byteOf b0, byteOf b1, byteOf b2, byteOf b3])) => row_strT (P := Tryd.prog) 26 9 5 Tryd.underlying26 Tryd.underlying5 Tryd.underlying9 h 4 (by simp)
  have hsz : (⟨[byteOf b0, byteOf b1, byteOf b2, byteOf b3].toArray⟩ : ByteArray).size = 4 := rfl
  generalize (⟨[byteOf b0, byteOf b1, byteOf b2, byteOf b3].toArray⟩ : ByteArray) = S at *
  clear w0 w1 w2 w3 g0 g1 g2 g3 hl
  have hc := hcv _ (hrow 25)
  replace hc : (convert 26 9 (.slice (some ⟨w.heap.size, 0, none⟩) 4 4)).run Tryd.prog (w.alloc (.cells #[.int .u8 b0, .int .u8 b1, .int .u8 b2, .int .u8 b3] 25)) = .ok (.string S) (w.alloc (.cells #[.int .u8 b0, .int .u8 b1, .int .u8 b2, .int .u8 b3] 25)) := hc
  have hle : (4 : Int) ≤ S.size := by omega
  have hge : (S.size : Int) ≤ 4 := by omega
  have hk0 : Kept No w (w.alloc (.cells #[.int .u8 b0, .int .u8 b1, .int .u8 b2, .int .u8 b3] 25)) := (Kept.refl No w).alloc _
  clear hcv hrow hsz
  go_enter Tryd.func4, Tryd.ntmps4
  go_wp2_with fail
  clear hc
  generalize w.alloc (.cells #[.int .u8 b0, .int .u8 b1, .int .u8 b2, .int .u8 b3] 25) = w1 at *
  go_loopw [4] (fun n wr => ∃ k : Nat, n = .int .i64 k ∧ 1 ≤ k ∧ k ≤ 5 ∧ Kept No w wr) (fun n _ => 5 - (intOf n).toNat)
  case atStart => exact ⟨1, rfl, by omega, by omega, hk0⟩
  case round =>
    obtain ⟨k, rfl, h1, h5, hK⟩ := hrel
    by_cases hlt : k ≤ 4
    · have hltI : (k : Int) ≤ 4 := by omega
      have h1I : (1 : Int) ≤ k := by omega
      have h0I : (0 : Int) ≤ k := by omega
      have hkS : (k : Int) ≤ S.size := by omega
      have hw4 : IntKind.i64.wrap (4 - (k : Int)) = 4 - (k : Int) := by rw [IntKind.wrap_i64]; omega
      have hq0 : (0 : Int) ≤ 4 - (k : Int) := by omega
      have hqS : 4 - (k : Int) ≤ S.size := by omega
      have hqN : (4 - (k : Int)).toNat = 4 - k := by omega
      obtain ⟨v, hv⟩ : ∃ v, Hid (okText (S.extract 0 k) = v) := ⟨_, Lib.hid rfl⟩
      obtain ⟨n, hn, hn2⟩ : ∃ n, Hid (refRunes (S.extract (4 - k) S.size) = n) ∧ Hid ((cntText (S.extract (4 - k) S.size) : Int) = max n 0) := ⟨_, Lib.hid rfl, Lib.hid (max_ref _).symm⟩
      have hlo : (S.extract 0 k).size ≤ 70000 := by rw [ByteArray.size_extract]; omega
      have hhi : (S.extract (4 - k) S.size).size ≤ 70000 := by rw [ByteArray.size_extract]; omega
      have hT9 := hT.kept hK.drew
      go_wp2_with fail
      refine wp_region_any (by kernel_rfl) ?_
      try (change wpAny _ _ _ _ _ _ _ (World.drew _))
      refine wpAny_take (i := 0) (v := ?vvf0) rfl (by kernel_rfl) (by kernel_rfl) (by kernel_rfl) (fun _ _ _ h => h) (Or.inl ⟨by rfl, ?hhf0⟩) ?rrf0
      case hhf0 => (intro wz9; go_simp; try with_reducible rfl)
      go_simp
      refine wpAny_take (i := 1) (v := ?vvf1) rfl (by kernel_rfl) (by kernel_rfl) (by kernel_rfl) (fun _ _ _ h => h) (Or.inl ⟨by rfl, ?hhf1⟩) ?rrf1
      case hhf1 => (intro wz9; go_simp; try with_reducible rfl)
      go_simp
      refine wpAny_take (i := 2) (v := (.string (S.extract 0 k))) rfl (by kernel_rfl) (by kernel_rfl) (by kernel_rfl) (fun _ _ _ h => h) (Or.inl ⟨by rfl, ?hhf2⟩) ?rrf2
      case hhf2 => (intro wz9; go_simp)
      go_simp
      refine wpAny_take (i := 4) (v := ?vvf4) rfl (by kernel_rfl) (by kernel_rfl) (by kernel_rfl) (fun _ _ _ h => h) (Or.inl ⟨by rfl, ?hhf4⟩) ?rrf4
      case hhf4 => (intro wz9; go_simp; try with_reducible rfl)
      go_simp
      refine wpAny_take (i := 5) (v := ?vvf5) rfl (by kernel_rfl) (by kernel_rfl) (by kernel_rfl) (fun _ _ _ h => h) (Or.inl ⟨by rfl, ?hhf5⟩) ?rrf5
      case hhf5 => (intro wz9; go_simp; try with_reducible rfl)
      go_simp
      refine wpAny_take (i := 6) (v := (.string (S.extract 0 k))) rfl (by kernel_rfl) (by kernel_rfl) (by kernel_rfl) (fun _ _ _ h => h) (Or.inl ⟨by rfl, ?hhf6⟩) ?rrf6
      case hhf6 => (intro wz9; go_simp)
      go_simp
      refine wpAny_ready (rs := [3]) (by kernel_rfl) (by simp) ?_
      refine AllReady.cons rfl (fun K9 hK9 => ?_) AllReady.nil
      go_simp
      go_wp2_with (go_at_call 8; ((with_reducible refine (right_v (S.extract 0 k) v hv _ hlo hT9).mono ?_); rintro e wz ⟨rfl, hkz⟩; have hKz := hK.drew.trans hkz; have hTz := hT.kept hKz))
      try (refine hK9 _ _ ?_; clear hK9 K9)
      refine wpAny_ready (rs := [7]) (by kernel_rfl) (by simp) ?_
      refine AllReady.cons rfl (fun K9 hK9 => ?_) AllReady.nil
      go_simp
      go_wp2_with (go_at_call 9; ((with_reducible refine (refRight_v (S.extract 0 k) v hv _ hlo).mono ?_); rintro e wq ⟨rfl, rfl⟩))
      try (refine hK9 _ _ ?_; clear hK9 K9)
      refine wpAny_take (i := 8) (v := (.bool false)) rfl (by kernel_rfl) (by kernel_rfl) (by kernel_rfl) (fun _ _ _ h => h) (Or.inl ⟨by rfl, ?hhf8⟩) ?rrf8
      case hhf8 => (intro wz9; go_simp)
      go_simp
      refine wpAny_take (i := 9) (v := (.bool false)) rfl (by kernel_rfl) (by kernel_rfl) (by kernel_rfl) (fun _ _ _ h => h) (Or.inl ⟨by rfl, ?hhf9⟩) ?rrf9
      case hhf9 => (intro wz9; go_simp)
      go_simp
      refine wpAny_take (i := 10) (v := ?vvf10) rfl (by kernel_rfl) (by kernel_rfl) (by kernel_rfl) (fun _ _ _ h => h) (Or.inl ⟨by rfl, ?hhf10⟩) ?rrf10
      case hhf10 => (intro wz9; go_simp; try with_reducible rfl)
      go_simp
      refine wpAny_take (i := 11) (v := ?vvf11) rfl (by kernel_rfl) (by kernel_rfl) (by kernel_rfl) (fun _ _ _ h => h) (Or.inl ⟨by rfl, ?hhf11⟩) ?rrf11
      case hhf11 => (intro wz9; go_simp; try with_reducible rfl)
      go_simp
      refine wpAny_take (i := 12) (v := ?vvf12) rfl (by kernel_rfl) (by kernel_rfl) (by kernel_rfl) (fun _ _ _ h => h) (Or.inl ⟨by rfl, ?hhf12⟩) ?rrf12
      case hhf12 => (intro wz9; go_simp; try with_reducible rfl)
      go_simp
      refine wpAny_take (i := 13) (v := (.string (S.extract (4 - k) S.size))) rfl (by kernel_rfl) (by kernel_rfl) (by kernel_rfl) (fun _ _ _ h => h) (Or.inl ⟨by rfl, ?hhf13⟩) ?rrf13
      case hhf13 => (intro wz9; go_simp)
      go_simp
      refine wpAny_take (i := 15) (v := ?vvf15) rfl (by kernel_rfl) (by kernel_rfl) (by kernel_rfl) (fun _ _ _ h => h) (Or.inl ⟨by rfl, ?hhf15⟩) ?rrf15
      case hhf15 => (intro wz9; go_simp; try with_reducible rfl)
      go_simp
      refine wpAny_take (i := 16) (v := ?vvf16) rfl (by kernel_rfl) (by kernel_rfl) (by kernel_rfl) (fun _ _ _ h => h) (Or.inl ⟨by rfl, ?hhf16⟩) ?rrf16
      case hhf16 => (intro wz9; go_simp; try with_reducible rfl)
      go_simp
      refine wpAny_take (i := 17) (v := ?vvf17) rfl (by kernel_rfl) (by kernel_rfl) (by kernel_rfl) (fun _ _ _ h => h) (Or.inl ⟨by rfl, ?hhf17⟩) ?rrf17
      case hhf17 => (intro wz9; go_simp; try with_reducible rfl)
      go_simp
      refine wpAny_take (i := 18) (v := (.string (S.extract (4 - k) S.size))) rfl (by kernel_rfl) (by kernel_rfl) (by kernel_rfl) (fun _ _ _ h => h) (Or.inl ⟨by rfl, ?hhf18⟩) ?rrf18
      case hhf18 => (intro wz9; go_simp)
      go_simp
      refine wpAny_ready (rs := [14]) (by kernel_rfl) (by simp) ?_
      refine AllReady.cons rfl (fun K9 hK9 => ?_) AllReady.nil
      go_simp
      go_wp2_with (go_at_call 10; ((with_reducible refine (runes_is (S.extract (4 - k) S.size) (max n 0) _ hhi hn2 hTz).mono ?_); rintro e wy ⟨rfl, hky⟩; have hKy := hKz.trans hky))
      try (refine hK9 _ _ ?_; clear hK9 K9)
      refine wpAny_ready (rs := [19]) (by kernel_rfl) (by simp) ?_
      refine AllReady.cons rfl (fun K9 hK9 => ?_) AllReady.nil
      go_simp
      go_wp2_with (go_at_call 11; ((with_reducible refine (refRunes_v (S.extract (4 - k) S.size) n hn _ hhi).mono ?_); rintro e wq ⟨rfl, rfl⟩))
      try (refine hK9 _ _ ?_; clear hK9 K9)
      refine wpAny_take (i := 20) (v := (.int .i64 (max n 0))) rfl (by kernel_rfl) (by kernel_rfl) (by kernel_rfl) (fun _ _ _ h => h) (Or.inl ⟨by rfl, ?hhf20⟩) ?rrf20
      case hhf20 => (intro wz9; go_simp)
      go_simp
      refine wpAny_take (i := 21) (v := (.bool false)) rfl (by kernel_rfl) (by kernel_rfl) (by kernel_rfl) (fun _ _ _ h => h) (Or.inl ⟨by rfl, ?hhf21⟩) ?rrf21
      case hhf21 => (intro wz9; go_simp)
      go_simp
      refine wpAny_take (i := 22) (v := (.bool false)) rfl (by kernel_rfl) (by kernel_rfl) (by kernel_rfl) (fun _ _ _ h => h) (Or.inl ⟨by rfl, ?hhf22⟩) ?rrf22
      case hhf22 => (intro wz9; go_simp)
      go_simp
      refine wpAny_done (by kernel_rfl) ?_ _
      go_wp2
      go_roundw
      case rel => exact ⟨k + 1, by go_num, by omega, by omega, hKy⟩
      case measure => simp [intOf]; omega
    · have hge5 : (4 : Int) < k := by omega
      go_wp2_with (go_at_call 7; refine (told2_any _ (hT.kept hK)).mono ?_; rintro e wz ⟨rfl, hkz⟩)
      go_ret
      exact ⟨rfl, (hK.trans hkz).below (Nat.le_refl _) (fun _ _ f => f)⟩

end Go.Proofs.YtfkddmdoepiikabDoor
