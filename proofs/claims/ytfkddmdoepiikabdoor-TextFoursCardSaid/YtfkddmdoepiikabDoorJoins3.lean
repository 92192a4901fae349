/-
  The walk of TextJoins.
-/
import Derived.Test.YtfkddmdoepiikabDoorText3
import Derived.Test.YtfkddmdoepiikabDoorFix
import Derived.Deep.RegionHeld3
import Derived.Deep.RegionWith
namespace Go.Proofs.YtfkddmdoepiikabDoor
open Go.RowKit
set_option linter.unusedVariables false
set_option linter.unusedSimpArgs false

theorem right_is (s : ByteArray) (b : Bool) (w : World) (hs : s.size ≤ 70000) (hb : Hid (okText s = b)) (hT : Tabs w) :
    Calls Tryd.prog 8 #[.string s] w fun e w' => e = .returned (.bool b) ∧ Kept No w w' := by
  have := right_any s w (by omega) hT
  rwa [hb.out] at this
theorem runes_is (s : ByteArray) (n : Int) (w : World) (hs : s.size ≤ 70000) (hb : Hid ((cntText s : Int) = n)) (hT : Tabs w) :
    Calls Tryd.prog 10 #[.string s] w fun e w' => e = .returned (.int .i64 n) ∧ Kept No w w' := by
  have := runes_any s w (by omega) hT
  rwa [hb.out] at this
theorem ok_small (s : ByteArray) (h : s.size ≤ 65535) : okText s = (cnt s.data.toList).isSome := by
  unfold okText
  rw [decide_eq_true h, Bool.true_and, isText_cnt]
theorem cnt_small (s : ByteArray) (h : s.size ≤ 65535) : cntText s = (cnt s.data.toList).getD 0 := by
  unfold cntText okText
  rw [decide_eq_true h, Bool.true_and, count_cnt]
theorem list_take (B : ByteArray) (k : Nat) : (B.extract 0 k).data.toList = B.data.toList.take k := by
  simp
theorem list_drop (B : ByteArray) (k : Nat) : (B.extract k B.size).data.toList = B.data.toList.drop k := by
  have h : B.size = B.data.toList.length := by rw [sz_list]
  rw [h]; simp [List.take_of_length_le]
structure JoinsIs (A B S : ByteArray) : Prop where
  ok : okText S = true
  runes : (cntText S : Int) = (cntText A : Int) + (cntText B : Int)
  cut : ∀ (k : Nat) (h : k < S.size), okText (S.extract 0 k) = startB S[k] ∧ okText (S.extract k S.size) = startB S[k]
theorem joins_is (a b : ByteArray) : JoinsIs (fixS a) (fixS b) (fixS a ++ fixS b) := by
  have ha := fixS_len a
  have hb := fixS_len b
  have hs : (fixS a ++ fixS b).size ≤ 64 := by rw [ByteArray.size_append]; omega
  have hl : (fixS a ++ fixS b).data.toList = fixL a.data.toList ++ fixL b.data.toList := by
    rw [ByteArray.data_append]; simp [fixS]
  obtain ⟨j1, j2, j3, j4⟩ := joins a.data.toList b.data.toList
  refine ⟨by rw [ok_small _ (by omega), hl, j2]; rfl, ?_, fun k h => ?_⟩
  · rw [cnt_small _ (by omega), cnt_small _ (by omega), cnt_small _ (by omega), hl, j2]
    show (((cnt (fixL a.data.toList)).getD 0 + (cnt (fixL b.data.toList)).getD 0 : Nat) : Int) = _
    rw [show (fixS a).data.toList = fixL a.data.toList by simp [fixS], show (fixS b).data.toList = fixL b.data.toList by simp [fixS]]
    omega
  · have hg := get_at (fixS a ++ fixS b) k h
    have h9 := sz_list (fixS a ++ fixS b)
    rw [hl] at hg h9
    rw [ok_small _ (by rw [ByteArray.size_extract]; omega), ok_small _ (by rw [ByteArray.size_extract]; omega), list_take, list_drop, hl, ← hg]
    exact j4 k (by rw [h9]; exact h)

set_option maxRecDepth 100000 in
set_option maxHeartbeats 40000000 in
theorem textJoins_walk (a b : ByteArray) (a2 : Int) (w : World) (w0 : a.size ≤ maxLen) (w1 : b.size ≤ maxLen) (w2 : (Lit.int .i64 a2).wf = true) (hT : Tabs w) :
    Calls Tryd.prog 5 #[.string a, .string b, .int .i64 a2] w fun e w' => e = .returned (.bool true) ∧ Below w.heap.size w w' := by
  unfold maxLen at w0 w1
  have ha := fixS_len a
  have hb := fixS_len b
  have hJ := joins_is a b
  have hcA : cntText (fixS a) ≤ 100 := by have := fix_count a.data.toList; rw [cnt_small _ (by omega)]; simp [fixS]; omega
  have hcB : cntText (fixS b) ≤ 100 := by have := fix_count b.data.toList; rw [cnt_small _ (by omega)]; simp [fixS]; omega
  have hS : (fixS a ++ fixS b).size ≤ 64 := by rw [ByteArray.size_append]; omega
  have hK := Kept.refl No w
  have HJ := Lib.hid hJ
  clear hJ w2
  go_enter Tryd.func5, Tryd.ntmps5
  go_wp2_with fail
  refine (fix_any a _ (by omega)).mono ?_
  rintro e w3 ⟨rfl, hk⟩
  have hK := hK.trans hk
  go_wp2_with fail
  refine (fix_any b _ (by omega)).mono ?_
  rintro e w4 ⟨rfl, hk⟩
  have hK := hK.trans hk
  clear hk
  generalize hA : fixS a = A at *
  generalize hB : fixS b = B at *
  clear hA hB
  go_wp2_with fail
  generalize A ++ B = S at *
  have HR := Lib.hid HJ.out.runes
  have HO := Lib.hid HJ.out.ok
  have HC := Lib.hid HJ.out.cut
  clear HJ
  refine (told2_any _ (hT.kept hK)).mono ?_
  rintro e w5 ⟨rfl, hk⟩
  have hK := hK.trans hk
  clear hk
  go_wp2_with fail
  refine (right_is S true _ (by omega) HO (hT.kept hK)).mono ?_
  rintro e w6 ⟨rfl, hk⟩
  have hK := hK.trans hk
  clear hk
  go_wp2_with fail
  refine (runes_is S _ _ (by omega) HR (hT.kept hK)).mono ?_
  rintro e w7 ⟨rfl, hk⟩
  have hK := hK.trans hk
  clear hk
  go_wp2_with fail
  refine (runes_is A _ _ (by omega) (Lib.hid rfl) (hT.kept hK)).mono ?_
  rintro e w8 ⟨rfl, hk⟩
  have hK := hK.trans hk
  clear hk
  go_wp2_with fail
  refine (runes_is B _ _ (by omega) (Lib.hid rfl) (hT.kept hK)).mono ?_
  rintro e w9 ⟨rfl, hk⟩
  have hK := hK.trans hk
  clear hk
  have hcs : (cntText A : Int) ≤ 100 ∧ (cntText B : Int) ≤ 100 := by omega
  by_cases h0 : S.size = 0
  · have h1 : ((S.size : Int) == 0) = true := by rw [h0]; rfl
    clear h0
    go_wp2
    go_ret
    exact ⟨rfl, hK.below (Nat.le_refl _) (fun _ _ f => f)⟩
  · have h1 : ((S.size : Int) == 0) = false := by rw [beq_eq_false_iff_ne]; omega
    have h2 : ¬ S = ByteArray.empty := fun e => h0 (by rw [e]; rfl)
    have h3 : (0 : Int) < S.size := by omega
    have HM := Lib.hid (law_mod a2 S.size h3 (by omega))
    clear h0 HR HO
    go_wp2_with fail
    obtain ⟨k, hk1, hk2⟩ := HM.out
    rw [hk1]
    clear hk1 HM
    have hkS : k < S.size := by omega
    obtain ⟨c1, c2⟩ := HC.out k hkS
    have hlo : (S.extract 0 k).size ≤ 70000 := by rw [ByteArray.size_extract]; omega
    have hhi : (S.extract k S.size).size ≤ 70000 := by rw [ByteArray.size_extract]; omega
    have hb9 := byte_lt S[k]
    have hk0 : (0 : Int) ≤ k := by omega
    have hk1 : (k : Int) ≤ S.size := by omega
    clear HC
    rcases (show S[k].toNat < 128 ∨ 192 ≤ S[k].toNat ∨ (128 ≤ S[k].toNat ∧ S[k].toNat < 192) from by omega) with d | d | ⟨d, d'⟩
    · have hst : startB S[k] = true := by unfold startB; simp; omega
      rw [hst] at c1 c2
      have C1 := Lib.hid c1
      have C2 := Lib.hid c2
      have dI : (S[k].toNat : Int) < 128 := by omega
      have e1 : decide ((S[k].toNat : Int) < 128) = true := decide_eq_true dI
      clear c1 c2 hst
      have hT9 := hT.kept hK.drew
      refine wp_region_any (by kernel_rfl) ?_
      try (change wpAny _ _ _ _ _ _ _ (World.drew _))
      refine wpAny_take (i := 0) (v := ?vva0) rfl (by kernel_rfl) (by kernel_rfl) (by kernel_rfl) (fun _ _ _ h => h) (Or.inl ⟨by rfl, ?hha0⟩) ?rra0
      case hha0 => (intro wz9; go_simp; try with_reducible rfl)
      go_simp
      refine wpAny_take (i := 1) (v := ?vva1) rfl (by kernel_rfl) (by kernel_rfl) (by kernel_rfl) (fun _ _ _ h => h) (Or.inl ⟨by rfl, ?hha1⟩) ?rra1
      case hha1 => (intro wz9; go_simp; try with_reducible rfl)
      go_simp
      refine wpAny_take (i := 2) (v := ?vva2) rfl (by kernel_rfl) (by kernel_rfl) (by kernel_rfl) (fun _ _ _ h => h) (Or.inl ⟨by rfl, ?hha2⟩) ?rra2
      case hha2 => (intro wz9; go_simp; try with_reducible rfl)
      go_simp
      refine wpAny_take (i := 4) (v := ?vva4) rfl (by kernel_rfl) (by kernel_rfl) (by kernel_rfl) (fun _ _ _ h => h) (Or.inl ⟨by rfl, ?hha4⟩) ?rra4
      case hha4 => (intro wz9; go_simp; try with_reducible rfl)
      go_simp
      refine wpAny_take (i := 5) (v := ?vva5) rfl (by kernel_rfl) (by kernel_rfl) (by kernel_rfl) (fun _ _ _ h => h) (Or.inl ⟨by rfl, ?hha5⟩) ?rra5
      case hha5 => (intro wz9; go_simp; try with_reducible rfl)
      go_simp
      refine wpAny_take (i := 6) (v := ?vva6) rfl (by kernel_rfl) (by kernel_rfl) (by kernel_rfl) (fun _ _ _ h => h) (Or.inl ⟨by rfl, ?hha6⟩) ?rra6
      case hha6 => (intro wz9; go_simp; try with_reducible rfl)
      go_simp
      refine wpAny_take (i := 7) (v := (.bool true)) rfl (by kernel_rfl) (by kernel_rfl) (by kernel_rfl) (fun _ _ _ h => h) (Or.inl ⟨by rfl, ?hha7⟩) ?rra7
      case hha7 => (intro wz9; go_simp)
      go_simp
      refine wpAny_ready (rs := [3]) (by kernel_rfl) (by simp) ?_
      refine AllReady.cons rfl (fun K9 hK9 => ?_) AllReady.nil
      go_simp
      go_wp2_with (go_at_call 8; ((with_reducible refine (right_is (S.extract 0 k) true _ hlo C1 hT9).mono ?_); rintro e wz ⟨rfl, hkz⟩; have hKz := hK.drew.trans hkz; have hTz := hT.kept hKz))
      try (refine hK9 _ _ ?_; clear hK9 K9)
      refine wpAny_take (i := 8) (v := (.bool true)) rfl (by kernel_rfl) (by kernel_rfl) (by kernel_rfl) (fun _ _ _ h => h) (Or.inl ⟨by rfl, ?hha8⟩) ?rra8
      case hha8 => (intro wz9; go_simp)
      go_simp
      refine wpAny_take (i := 9) (v := undef) rfl (by kernel_rfl) (by kernel_rfl) (by kernel_rfl) (fun _ _ _ h => h) (Or.inr ⟨by rfl, rfl⟩) ?_
      go_simp
      refine wpAny_take (i := 10) (v := undef) rfl (by kernel_rfl) (by kernel_rfl) (by kernel_rfl) (fun _ _ _ h => h) (Or.inr ⟨by rfl, rfl⟩) ?_
      go_simp
      refine wpAny_take (i := 11) (v := undef) rfl (by kernel_rfl) (by kernel_rfl) (by kernel_rfl) (fun _ _ _ h => h) (Or.inr ⟨by rfl, rfl⟩) ?_
      go_simp
      refine wpAny_take (i := 12) (v := undef) rfl (by kernel_rfl) (by kernel_rfl) (by kernel_rfl) (fun _ _ _ h => h) (Or.inr ⟨by rfl, rfl⟩) ?_
      go_simp
      refine wpAny_take (i := 13) (v := (.bool true)) rfl (by kernel_rfl) (by kernel_rfl) (by kernel_rfl) (fun _ _ _ h => h) (Or.inl ⟨by rfl, ?hha13⟩) ?rra13
      case hha13 => (intro wz9; go_simp)
      go_simp
      refine wpAny_take (i := 14) (v := (.bool true)) rfl (by kernel_rfl) (by kernel_rfl) (by kernel_rfl) (fun _ _ _ h => h) (Or.inl ⟨by rfl, ?hha14⟩) ?rra14
      case hha14 => (intro wz9; go_simp)
      go_simp
      refine wpAny_take (i := 15) (v := (.bool true)) rfl (by kernel_rfl) (by kernel_rfl) (by kernel_rfl) (fun _ _ _ h => h) (Or.inl ⟨by rfl, ?hha15⟩) ?rra15
      case hha15 => (intro wz9; go_simp)
      go_simp
      refine wpAny_take (i := 16) (v := ?vva16) rfl (by kernel_rfl) (by kernel_rfl) (by kernel_rfl) (fun _ _ _ h => h) (Or.inl ⟨by rfl, ?hha16⟩) ?rra16
      case hha16 => (intro wz9; go_simp; try with_reducible rfl)
      go_simp
      refine wpAny_take (i := 17) (v := ?vva17) rfl (by kernel_rfl) (by kernel_rfl) (by kernel_rfl) (fun _ _ _ h => h) (Or.inl ⟨by rfl, ?hha17⟩) ?rra17
      case hha17 => (intro wz9; go_simp; try with_reducible rfl)
      go_simp
      refine wpAny_take (i := 18) (v := ?vva18) rfl (by kernel_rfl) (by kernel_rfl) (by kernel_rfl) (fun _ _ _ h => h) (Or.inl ⟨by rfl, ?hha18⟩) ?rra18
      case hha18 => (intro wz9; go_simp; try with_reducible rfl)
      go_simp
      refine wpAny_take (i := 20) (v := ?vva20) rfl (by kernel_rfl) (by kernel_rfl) (by kernel_rfl) (fun _ _ _ h => h) (Or.inl ⟨by rfl, ?hha20⟩) ?rra20
      case hha20 => (intro wz9; go_simp; try with_reducible rfl)
      go_simp
      refine wpAny_take (i := 21) (v := ?vva21) rfl (by kernel_rfl) (by kernel_rfl) (by kernel_rfl) (fun _ _ _ h => h) (Or.inl ⟨by rfl, ?hha21⟩) ?rra21
      case hha21 => (intro wz9; go_simp; try with_reducible rfl)
      go_simp
      refine wpAny_take (i := 22) (v := ?vva22) rfl (by kernel_rfl) (by kernel_rfl) (by kernel_rfl) (fun _ _ _ h => h) (Or.inl ⟨by rfl, ?hha22⟩) ?rra22
      case hha22 => (intro wz9; go_simp; try with_reducible rfl)
      go_simp
      refine wpAny_take (i := 23) (v := (.bool true)) rfl (by kernel_rfl) (by kernel_rfl) (by kernel_rfl) (fun _ _ _ h => h) (Or.inl ⟨by rfl, ?hha23⟩) ?rra23
      case hha23 => (intro wz9; go_simp)
      go_simp
      refine wpAny_ready (rs := [19]) (by kernel_rfl) (by simp) ?_
      refine AllReady.cons rfl (fun K9 hK9 => ?_) AllReady.nil
      go_simp
      go_wp2_with (go_at_call 8; ((with_reducible refine (right_is (S.extract k S.size) true _ hhi C2 hTz).mono ?_); rintro e wy ⟨rfl, hky⟩; have hKy := hKz.trans hky))
      try (refine hK9 _ _ ?_; clear hK9 K9)
      refine wpAny_take (i := 24) (v := (.bool true)) rfl (by kernel_rfl) (by kernel_rfl) (by kernel_rfl) (fun _ _ _ h => h) (Or.inl ⟨by rfl, ?hha24⟩) ?rra24
      case hha24 => (intro wz9; go_simp)
      go_simp
      refine wpAny_take (i := 25) (v := undef) rfl (by kernel_rfl) (by kernel_rfl) (by kernel_rfl) (fun _ _ _ h => h) (Or.inr ⟨by rfl, rfl⟩) ?_
      go_simp
      refine wpAny_take (i := 26) (v := undef) rfl (by kernel_rfl) (by kernel_rfl) (by kernel_rfl) (fun _ _ _ h => h) (Or.inr ⟨by rfl, rfl⟩) ?_
      go_simp
      refine wpAny_take (i := 27) (v := undef) rfl (by kernel_rfl) (by kernel_rfl) (by kernel_rfl) (fun _ _ _ h => h) (Or.inr ⟨by rfl, rfl⟩) ?_
      go_simp
      refine wpAny_take (i := 28) (v := undef) rfl (by kernel_rfl) (by kernel_rfl) (by kernel_rfl) (fun _ _ _ h => h) (Or.inr ⟨by rfl, rfl⟩) ?_
      go_simp
      refine wpAny_take (i := 29) (v := (.bool true)) rfl (by kernel_rfl) (by kernel_rfl) (by kernel_rfl) (fun _ _ _ h => h) (Or.inl ⟨by rfl, ?hha29⟩) ?rra29
      case hha29 => (intro wz9; go_simp)
      go_simp
      refine wpAny_take (i := 30) (v := (.bool true)) rfl (by kernel_rfl) (by kernel_rfl) (by kernel_rfl) (fun _ _ _ h => h) (Or.inl ⟨by rfl, ?hha30⟩) ?rra30
      case hha30 => (intro wz9; go_simp)
      go_simp
      refine wpAny_take (i := 31) (v := (.bool true)) rfl (by kernel_rfl) (by kernel_rfl) (by kernel_rfl) (fun _ _ _ h => h) (Or.inl ⟨by rfl, ?hha31⟩) ?rra31
      case hha31 => (intro wz9; go_simp)
      go_simp
      refine wpAny_take (i := 32) (v := (.bool true)) rfl (by kernel_rfl) (by kernel_rfl) (by kernel_rfl) (fun _ _ _ h => h) (Or.inl ⟨by rfl, ?hha32⟩) ?rra32
      case hha32 => (intro wz9; go_simp)
      go_simp
      refine wpAny_done (by kernel_rfl) ?_ _
      go_wp2
      go_ret
      exact ⟨rfl, hKy.below (Nat.le_refl _) (fun _ _ f => f)⟩
    · have hst : startB S[k] = true := by unfold startB; simp; omega
      rw [hst] at c1 c2
      have C1 := Lib.hid c1
      have C2 := Lib.hid c2
      have dI : (192 : Int) ≤ (S[k].toNat : Int) := by omega
      have e1 : decide ((S[k].toNat : Int) < 128) = false := decide_eq_false (by omega)
      clear c1 c2 hst
      have hT9 := hT.kept hK.drew
      refine wp_region_any (by kernel_rfl) ?_
      try (change wpAny _ _ _ _ _ _ _ (World.drew _))
      refine wpAny_take (i := 0) (v := ?vvb0) rfl (by kernel_rfl) (by kernel_rfl) (by kernel_rfl) (fun _ _ _ h => h) (Or.inl ⟨by rfl, ?hhb0⟩) ?rrb0
      case hhb0 => (intro wz9; go_simp; try with_reducible rfl)
      go_simp
      refine wpAny_take (i := 1) (v := ?vvb1) rfl (by kernel_rfl) (by kernel_rfl) (by kernel_rfl) (fun _ _ _ h => h) (Or.inl ⟨by rfl, ?hhb1⟩) ?rrb1
      case hhb1 => (intro wz9; go_simp; try with_reducible rfl)
      go_simp
      refine wpAny_take (i := 2) (v := ?vvb2) rfl (by kernel_rfl) (by kernel_rfl) (by kernel_rfl) (fun _ _ _ h => h) (Or.inl ⟨by rfl, ?hhb2⟩) ?rrb2
      case hhb2 => (intro wz9; go_simp; try with_reducible rfl)
      go_simp
      refine wpAny_take (i := 4) (v := ?vvb4) rfl (by kernel_rfl) (by kernel_rfl) (by kernel_rfl) (fun _ _ _ h => h) (Or.inl ⟨by rfl, ?hhb4⟩) ?rrb4
      case hhb4 => (intro wz9; go_simp; try with_reducible rfl)
      go_simp
      refine wpAny_take (i := 5) (v := ?vvb5) rfl (by kernel_rfl) (by kernel_rfl) (by kernel_rfl) (fun _ _ _ h => h) (Or.inl ⟨by rfl, ?hhb5⟩) ?rrb5
      case hhb5 => (intro wz9; go_simp; try with_reducible rfl)
      go_simp
      refine wpAny_take (i := 6) (v := ?vvb6) rfl (by kernel_rfl) (by kernel_rfl) (by kernel_rfl) (fun _ _ _ h => h) (Or.inl ⟨by rfl, ?hhb6⟩) ?rrb6
      case hhb6 => (intro wz9; go_simp; try with_reducible rfl)
      go_simp
      refine wpAny_take (i := 7) (v := (.bool false)) rfl (by kernel_rfl) (by kernel_rfl) (by kernel_rfl) (fun _ _ _ h => h) (Or.inl ⟨by rfl, ?hhb7⟩) ?rrb7
      case hhb7 => (intro wz9; go_simp)
      go_simp
      refine wpAny_ready (rs := [3]) (by kernel_rfl) (by simp) ?_
      refine AllReady.cons rfl (fun K9 hK9 => ?_) AllReady.nil
      go_simp
      go_wp2_with (go_at_call 8; ((with_reducible refine (right_is (S.extract 0 k) true _ hlo C1 hT9).mono ?_); rintro e wz ⟨rfl, hkz⟩; have hKz := hK.drew.trans hkz; have hTz := hT.kept hKz))
      try (refine hK9 _ _ ?_; clear hK9 K9)
      refine wpAny_take (i := 8) (v := (.bool false)) rfl (by kernel_rfl) (by kernel_rfl) (by kernel_rfl) (fun _ _ _ h => h) (Or.inl ⟨by rfl, ?hhb8⟩) ?rrb8
      case hhb8 => (intro wz9; go_simp)
      go_simp
      refine wpAny_take (i := 9) (v := ?vvb9) rfl (by kernel_rfl) (by kernel_rfl) (by kernel_rfl) (fun _ _ _ h => h) (Or.inl ⟨by rfl, ?hhb9⟩) ?rrb9
      case hhb9 => (intro wz9; go_simp; try with_reducible rfl)
      go_simp
      refine wpAny_take (i := 10) (v := ?vvb10) rfl (by kernel_rfl) (by kernel_rfl) (by kernel_rfl) (fun _ _ _ h => h) (Or.inl ⟨by rfl, ?hhb10⟩) ?rrb10
      case hhb10 => (intro wz9; go_simp; try with_reducible rfl)
      go_simp
      refine wpAny_take (i := 11) (v := ?vvb11) rfl (by kernel_rfl) (by kernel_rfl) (by kernel_rfl) (fun _ _ _ h => h) (Or.inl ⟨by rfl, ?hhb11⟩) ?rrb11
      case hhb11 => (intro wz9; go_simp; try with_reducible rfl)
      go_simp
      refine wpAny_take (i := 12) (v := (.bool true)) rfl (by kernel_rfl) (by kernel_rfl) (by kernel_rfl) (fun _ _ _ h => h) (Or.inl ⟨by rfl, ?hhb12⟩) ?rrb12
      case hhb12 => (intro wz9; go_simp)
      go_simp
      refine wpAny_take (i := 13) (v := (.bool true)) rfl (by kernel_rfl) (by kernel_rfl) (by kernel_rfl) (fun _ _ _ h => h) (Or.inl ⟨by rfl, ?hhb13⟩) ?rrb13
      case hhb13 => (intro wz9; go_simp)
      go_simp
      refine wpAny_take (i := 14) (v := (.bool true)) rfl (by kernel_rfl) (by kernel_rfl) (by kernel_rfl) (fun _ _ _ h => h) (Or.inl ⟨by rfl, ?hhb14⟩) ?rrb14
      case hhb14 => (intro wz9; go_simp)
      go_simp
      refine wpAny_take (i := 15) (v := (.bool true)) rfl (by kernel_rfl) (by kernel_rfl) (by kernel_rfl) (fun _ _ _ h => h) (Or.inl ⟨by rfl, ?hhb15⟩) ?rrb15
      case hhb15 => (intro wz9; go_simp)
      go_simp
      refine wpAny_take (i := 16) (v := ?vvb16) rfl (by kernel_rfl) (by kernel_rfl) (by kernel_rfl) (fun _ _ _ h => h) (Or.inl ⟨by rfl, ?hhb16⟩) ?rrb16
      case hhb16 => (intro wz9; go_simp; try with_reducible rfl)
      go_simp
      refine wpAny_take (i := 17) (v := ?vvb17) rfl (by kernel_rfl) (by kernel_rfl) (by kernel_rfl) (fun _ _ _ h => h) (Or.inl ⟨by rfl, ?hhb17⟩) ?rrb17
      case hhb17 => (intro wz9; go_simp; try with_reducible rfl)
      go_simp
      refine wpAny_take (i := 18) (v := ?vvb18) rfl (by kernel_rfl) (by kernel_rfl) (by kernel_rfl) (fun _ _ _ h => h) (Or.inl ⟨by rfl, ?hhb18⟩) ?rrb18
      case hhb18 => (intro wz9; go_simp; try with_reducible rfl)
      go_simp
      refine wpAny_take (i := 20) (v := ?vvb20) rfl (by kernel_rfl) (by kernel_rfl) (by kernel_rfl) (fun _ _ _ h => h) (Or.inl ⟨by rfl, ?hhb20⟩) ?rrb20
      case hhb20 => (intro wz9; go_simp; try with_reducible rfl)
      go_simp
      refine wpAny_take (i := 21) (v := ?vvb21) rfl (by kernel_rfl) (by kernel_rfl) (by kernel_rfl) (fun _ _ _ h => h) (Or.inl ⟨by rfl, ?hhb21⟩) ?rrb21
      case hhb21 => (intro wz9; go_simp; try with_reducible rfl)
      go_simp
      refine wpAny_take (i := 22) (v := ?vvb22) rfl (by kernel_rfl) (by kernel_rfl) (by kernel_rfl) (fun _ _ _ h => h) (Or.inl ⟨by rfl, ?hhb22⟩) ?rrb22
      case hhb22 => (intro wz9; go_simp; try with_reducible rfl)
      go_simp
      refine wpAny_take (i := 23) (v := (.bool false)) rfl (by kernel_rfl) (by kernel_rfl) (by kernel_rfl) (fun _ _ _ h => h) (Or.inl ⟨by rfl, ?hhb23⟩) ?rrb23
      case hhb23 => (intro wz9; go_simp)
      go_simp
      refine wpAny_ready (rs := [19]) (by kernel_rfl) (by simp) ?_
      refine AllReady.cons rfl (fun K9 hK9 => ?_) AllReady.nil
      go_simp
      go_wp2_with (go_at_call 8; ((with_reducible refine (right_is (S.extract k S.size) true _ hhi C2 hTz).mono ?_); rintro e wy ⟨rfl, hky⟩; have hKy := hKz.trans hky))
      try (refine hK9 _ _ ?_; clear hK9 K9)
      refine wpAny_take (i := 24) (v := (.bool false)) rfl (by kernel_rfl) (by kernel_rfl) (by kernel_rfl) (fun _ _ _ h => h) (Or.inl ⟨by rfl, ?hhb24⟩) ?rrb24
      case hhb24 => (intro wz9; go_simp)
      go_simp
      refine wpAny_take (i := 25) (v := ?vvb25) rfl (by kernel_rfl) (by kernel_rfl) (by kernel_rfl) (fun _ _ _ h => h) (Or.inl ⟨by rfl, ?hhb25⟩) ?rrb25
      case hhb25 => (intro wz9; go_simp; try with_reducible rfl)
      go_simp
      refine wpAny_take (i := 26) (v := ?vvb26) rfl (by kernel_rfl) (by kernel_rfl) (by kernel_rfl) (fun _ _ _ h => h) (Or.inl ⟨by rfl, ?hhb26⟩) ?rrb26
      case hhb26 => (intro wz9; go_simp; try with_reducible rfl)
      go_simp
      refine wpAny_take (i := 27) (v := ?vvb27) rfl (by kernel_rfl) (by kernel_rfl) (by kernel_rfl) (fun _ _ _ h => h) (Or.inl ⟨by rfl, ?hhb27⟩) ?rrb27
      case hhb27 => (intro wz9; go_simp; try with_reducible rfl)
      go_simp
      refine wpAny_take (i := 28) (v := (.bool true)) rfl (by kernel_rfl) (by kernel_rfl) (by kernel_rfl) (fun _ _ _ h => h) (Or.inl ⟨by rfl, ?hhb28⟩) ?rrb28
      case hhb28 => (intro wz9; go_simp)
      go_simp
      refine wpAny_take (i := 29) (v := (.bool true)) rfl (by kernel_rfl) (by kernel_rfl) (by kernel_rfl) (fun _ _ _ h => h) (Or.inl ⟨by rfl, ?hhb29⟩) ?rrb29
      case hhb29 => (intro wz9; go_simp)
      go_simp
      refine wpAny_take (i := 30) (v := (.bool true)) rfl (by kernel_rfl) (by kernel_rfl) (by kernel_rfl) (fun _ _ _ h => h) (Or.inl ⟨by rfl, ?hhb30⟩) ?rrb30
      case hhb30 => (intro wz9; go_simp)
      go_simp
      refine wpAny_take (i := 31) (v := (.bool true)) rfl (by kernel_rfl) (by kernel_rfl) (by kernel_rfl) (fun _ _ _ h => h) (Or.inl ⟨by rfl, ?hhb31⟩) ?rrb31
      case hhb31 => (intro wz9; go_simp)
      go_simp
      refine wpAny_take (i := 32) (v := (.bool true)) rfl (by kernel_rfl) (by kernel_rfl) (by kernel_rfl) (fun _ _ _ h => h) (Or.inl ⟨by rfl, ?hhb32⟩) ?rrb32
      case hhb32 => (intro wz9; go_simp)
      go_simp
      refine wpAny_done (by kernel_rfl) ?_ _
      go_wp2
      go_ret
      exact ⟨rfl, hKy.below (Nat.le_refl _) (fun _ _ f => f)⟩
    · have hst : startB S[k] = false := by unfold startB; simp; omega
      rw [hst] at c1 c2
      have C1 := Lib.hid c1
      have C2 := Lib.hid c2
      have dI : (128 : Int) ≤ (S[k].toNat : Int) := by omega
      have dJ : (S[k].toNat : Int) < 192 := by omega
      have e1 : decide ((S[k].toNat : Int) < 128) = false := decide_eq_false (by omega)
      have e2 : decide ((192 : Int) ≤ (S[k].toNat : Int)) = false := decide_eq_false (by omega)
      clear c1 c2 hst
      have hT9 := hT.kept hK.drew
      refine wp_region_any (by kernel_rfl) ?_
      try (change wpAny _ _ _ _ _ _ _ (World.drew _))
      refine wpAny_take (i := 0) (v := ?vvc0) rfl (by kernel_rfl) (by kernel_rfl) (by kernel_rfl) (fun _ _ _ h => h) (Or.inl ⟨by rfl, ?hhc0⟩) ?rrc0
      case hhc0 => (intro wz9; go_simp; try with_reducible rfl)
      go_simp
      refine wpAny_take (i := 1) (v := ?vvc1) rfl (by kernel_rfl) (by kernel_rfl) (by kernel_rfl) (fun _ _ _ h => h) (Or.inl ⟨by rfl, ?hhc1⟩) ?rrc1
      case hhc1 => (intro wz9; go_simp; try with_reducible rfl)
      go_simp
      refine wpAny_take (i := 2) (v := ?vvc2) rfl (by kernel_rfl) (by kernel_rfl) (by kernel_rfl) (fun _ _ _ h => h) (Or.inl ⟨by rfl, ?hhc2⟩) ?rrc2
      case hhc2 => (intro wz9; go_simp; try with_reducible rfl)
      go_simp
      refine wpAny_take (i := 4) (v := ?vvc4) rfl (by kernel_rfl) (by kernel_rfl) (by kernel_rfl) (fun _ _ _ h => h) (Or.inl ⟨by rfl, ?hhc4⟩) ?rrc4
      case hhc4 => (intro wz9; go_simp; try with_reducible rfl)
      go_simp
      refine wpAny_take (i := 5) (v := ?vvc5) rfl (by kernel_rfl) (by kernel_rfl) (by kernel_rfl) (fun _ _ _ h => h) (Or.inl ⟨by rfl, ?hhc5⟩) ?rrc5
      case hhc5 => (intro wz9; go_simp; try with_reducible rfl)
      go_simp
      refine wpAny_take (i := 6) (v := ?vvc6) rfl (by kernel_rfl) (by kernel_rfl) (by kernel_rfl) (fun _ _ _ h => h) (Or.inl ⟨by rfl, ?hhc6⟩) ?rrc6
      case hhc6 => (intro wz9; go_simp; try with_reducible rfl)
      go_simp
      refine wpAny_take (i := 7) (v := (.bool false)) rfl (by kernel_rfl) (by kernel_rfl) (by kernel_rfl) (fun _ _ _ h => h) (Or.inl ⟨by rfl, ?hhc7⟩) ?rrc7
      case hhc7 => (intro wz9; go_simp)
      go_simp
      refine wpAny_ready (rs := [3]) (by kernel_rfl) (by simp) ?_
      refine AllReady.cons rfl (fun K9 hK9 => ?_) AllReady.nil
      go_simp
      go_wp2_with (go_at_call 8; ((with_reducible refine (right_is (S.extract 0 k) false _ hlo C1 hT9).mono ?_); rintro e wz ⟨rfl, hkz⟩; have hKz := hK.drew.trans hkz; have hTz := hT.kept hKz))
      try (refine hK9 _ _ ?_; clear hK9 K9)
      refine wpAny_take (i := 8) (v := (.bool false)) rfl (by kernel_rfl) (by kernel_rfl) (by kernel_rfl) (fun _ _ _ h => h) (Or.inl ⟨by rfl, ?hhc8⟩) ?rrc8
      case hhc8 => (intro wz9; go_simp)
      go_simp
      refine wpAny_take (i := 9) (v := ?vvc9) rfl (by kernel_rfl) (by kernel_rfl) (by kernel_rfl) (fun _ _ _ h => h) (Or.inl ⟨by rfl, ?hhc9⟩) ?rrc9
      case hhc9 => (intro wz9; go_simp; try with_reducible rfl)
      go_simp
      refine wpAny_take (i := 10) (v := ?vvc10) rfl (by kernel_rfl) (by kernel_rfl) (by kernel_rfl) (fun _ _ _ h => h) (Or.inl ⟨by rfl, ?hhc10⟩) ?rrc10
      case hhc10 => (intro wz9; go_simp; try with_reducible rfl)
      go_simp
      refine wpAny_take (i := 11) (v := ?vvc11) rfl (by kernel_rfl) (by kernel_rfl) (by kernel_rfl) (fun _ _ _ h => h) (Or.inl ⟨by rfl, ?hhc11⟩) ?rrc11
      case hhc11 => (intro wz9; go_simp; try with_reducible rfl)
      go_simp
      refine wpAny_take (i := 12) (v := (.bool false)) rfl (by kernel_rfl) (by kernel_rfl) (by kernel_rfl) (fun _ _ _ h => h) (Or.inl ⟨by rfl, ?hhc12⟩) ?rrc12
      case hhc12 => (intro wz9; go_simp)
      go_simp
      refine wpAny_take (i := 13) (v := (.bool false)) rfl (by kernel_rfl) (by kernel_rfl) (by kernel_rfl) (fun _ _ _ h => h) (Or.inl ⟨by rfl, ?hhc13⟩) ?rrc13
      case hhc13 => (intro wz9; go_simp)
      go_simp
      refine wpAny_take (i := 14) (v := (.bool true)) rfl (by kernel_rfl) (by kernel_rfl) (by kernel_rfl) (fun _ _ _ h => h) (Or.inl ⟨by rfl, ?hhc14⟩) ?rrc14
      case hhc14 => (intro wz9; go_simp)
      go_simp
      refine wpAny_take (i := 15) (v := (.bool true)) rfl (by kernel_rfl) (by kernel_rfl) (by kernel_rfl) (fun _ _ _ h => h) (Or.inl ⟨by rfl, ?hhc15⟩) ?rrc15
      case hhc15 => (intro wz9; go_simp)
      go_simp
      refine wpAny_take (i := 16) (v := ?vvc16) rfl (by kernel_rfl) (by kernel_rfl) (by kernel_rfl) (fun _ _ _ h => h) (Or.inl ⟨by rfl, ?hhc16⟩) ?rrc16
      case hhc16 => (intro wz9; go_simp; try with_reducible rfl)
      go_simp
      refine wpAny_take (i := 17) (v := ?vvc17) rfl (by kernel_rfl) (by kernel_rfl) (by kernel_rfl) (fun _ _ _ h => h) (Or.inl ⟨by rfl, ?hhc17⟩) ?rrc17
      case hhc17 => (intro wz9; go_simp; try with_reducible rfl)
      go_simp
      refine wpAny_take (i := 18) (v := ?vvc18) rfl (by kernel_rfl) (by kernel_rfl) (by kernel_rfl) (fun _ _ _ h => h) (Or.inl ⟨by rfl, ?hhc18⟩) ?rrc18
      case hhc18 => (intro wz9; go_simp; try with_reducible rfl)
      go_simp
      refine wpAny_take (i := 20) (v := ?vvc20) rfl (by kernel_rfl) (by kernel_rfl) (by kernel_rfl) (fun _ _ _ h => h) (Or.inl ⟨by rfl, ?hhc20⟩) ?rrc20
      case hhc20 => (intro wz9; go_simp; try with_reducible rfl)
      go_simp
      refine wpAny_take (i := 21) (v := ?vvc21) rfl (by kernel_rfl) (by kernel_rfl) (by kernel_rfl) (fun _ _ _ h => h) (Or.inl ⟨by rfl, ?hhc21⟩) ?rrc21
      case hhc21 => (intro wz9; go_simp; try with_reducible rfl)
      go_simp
      refine wpAny_take (i := 22) (v := ?vvc22) rfl (by kernel_rfl) (by kernel_rfl) (by kernel_rfl) (fun _ _ _ h => h) (Or.inl ⟨by rfl, ?hhc22⟩) ?rrc22
      case hhc22 => (intro wz9; go_simp; try with_reducible rfl)
      go_simp
      refine wpAny_take (i := 23) (v := (.bool false)) rfl (by kernel_rfl) (by kernel_rfl) (by kernel_rfl) (fun _ _ _ h => h) (Or.inl ⟨by rfl, ?hhc23⟩) ?rrc23
      case hhc23 => (intro wz9; go_simp)
      go_simp
      refine wpAny_ready (rs := [19]) (by kernel_rfl) (by simp) ?_
      refine AllReady.cons rfl (fun K9 hK9 => ?_) AllReady.nil
      go_simp
      go_wp2_with (go_at_call 8; ((with_reducible refine (right_is (S.extract k S.size) false _ hhi C2 hTz).mono ?_); rintro e wy ⟨rfl, hky⟩; have hKy := hKz.trans hky))
      try (refine hK9 _ _ ?_; clear hK9 K9)
      refine wpAny_take (i := 24) (v := (.bool false)) rfl (by kernel_rfl) (by kernel_rfl) (by kernel_rfl) (fun _ _ _ h => h) (Or.inl ⟨by rfl, ?hhc24⟩) ?rrc24
      case hhc24 => (intro wz9; go_simp)
      go_simp
      refine wpAny_take (i := 25) (v := ?vvc25) rfl (by kernel_rfl) (by kernel_rfl) (by kernel_rfl) (fun _ _ _ h => h) (Or.inl ⟨by rfl, ?hhc25⟩) ?rrc25
      case hhc25 => (intro wz9; go_simp; try with_reducible rfl)
      go_simp
      refine wpAny_take (i := 26) (v := ?vvc26) rfl (by kernel_rfl) (by kernel_rfl) (by kernel_rfl) (fun _ _ _ h => h) (Or.inl ⟨by rfl, ?hhc26⟩) ?rrc26
      case hhc26 => (intro wz9; go_simp; try with_reducible rfl)
      go_simp
      refine wpAny_take (i := 27) (v := ?vvc27) rfl (by kernel_rfl) (by kernel_rfl) (by kernel_rfl) (fun _ _ _ h => h) (Or.inl ⟨by rfl, ?hhc27⟩) ?rrc27
      case hhc27 => (intro wz9; go_simp; try with_reducible rfl)
      go_simp
      refine wpAny_take (i := 28) (v := (.bool false)) rfl (by kernel_rfl) (by kernel_rfl) (by kernel_rfl) (fun _ _ _ h => h) (Or.inl ⟨by rfl, ?hhc28⟩) ?rrc28
      case hhc28 => (intro wz9; go_simp)
      go_simp
      refine wpAny_take (i := 29) (v := (.bool false)) rfl (by kernel_rfl) (by kernel_rfl) (by kernel_rfl) (fun _ _ _ h => h) (Or.inl ⟨by rfl, ?hhc29⟩) ?rrc29
      case hhc29 => (intro wz9; go_simp)
      go_simp
      refine wpAny_take (i := 30) (v := (.bool true)) rfl (by kernel_rfl) (by kernel_rfl) (by kernel_rfl) (fun _ _ _ h => h) (Or.inl ⟨by rfl, ?hhc30⟩) ?rrc30
      case hhc30 => (intro wz9; go_simp)
      go_simp
      refine wpAny_take (i := 31) (v := (.bool true)) rfl (by kernel_rfl) (by kernel_rfl) (by kernel_rfl) (fun _ _ _ h => h) (Or.inl ⟨by rfl, ?hhc31⟩) ?rrc31
      case hhc31 => (intro wz9; go_simp)
      go_simp
      refine wpAny_take (i := 32) (v := (.bool true)) rfl (by kernel_rfl) (by kernel_rfl) (by kernel_rfl) (fun _ _ _ h => h) (Or.inl ⟨by rfl, ?hhc32⟩) ?rrc32
      case hhc32 => (intro wz9; go_simp)
      go_simp
      refine wpAny_done (by kernel_rfl) ?_ _
      go_wp2
      go_ret
      exact ⟨rfl, hKy.below (Nat.le_refl _) (fun _ _ f => f)⟩

end Go.Proofs.YtfkddmdoepiikabDoor
