/-
  PropsOnce' walk.
-/
import Derived.Test.YtfcgfkgibimffaaDoorZPoA
namespace Go.Proofs.YtfcgfkgibimffaaDoor
open Go.RowKit
set_option linter.unusedVariables false
set_option linter.unusedSimpArgs false
set_option maxRecDepth 100000

theorem wpAnyH_more {P : Program} {md : Region.Mode} {ops : Array Oper} {Q : Exit → Act → World → Prop} {S S9 : World → Prop} (hS : ∀ w, S9 w → S w) : ∀ {fuel : Nat} {listed : Array Bool} {a : Act} {w : World}, wpAnyH P md ops Q S9 fuel listed a w → wpAnyH P md ops Q S fuel listed a w
  | 0, _, _, _, h => h
  | fuel + 1, _, _, _, h => ⟨h.1, fun i hi => wpOp_mono (fun a' w' h' => ⟨hS _ h'.1, wpAnyH_more hS h'.2⟩) (h.2 i hi)⟩
set_option maxHeartbeats 2000000 in
theorem propsOnce_walk (kd : Int) (a1 : Option Addr) (len1 cap1 : Nat) (z1 : List Pr) (a2 : Option Addr) (len2 cap2 : Nat) (z2 : List Pr) (at_ : Option Addr) (lt ct : Nat) (T : List Int) (w : World) (w0 : (Lit.int .i64 kd).wf = true) (w1 : IsProps w a1 len1 cap1 z1) (w2 : IsProps w a2 len2 cap2 z2) (w3 : IsRow .i64 w at_ lt ct T) (hT : Tabs w) :
    Calls Tryd.prog 8 #[.int .i64 kd, .agg #[.slice a1 len1 cap1, .slice a2 len2 cap2], .slice at_ lt ct] w fun e w' => e = .returned (.bool true) ∧ Below w.heap.size w w' := by
  obtain ⟨rfl, hr1, hle1, hcap1, hnil1, hwf1⟩ := w1
  obtain ⟨rfl, hr2, hle2, hcap2, hnil2, hwf2⟩ := w2
  unfold maxLen at hcap1 hcap2 hwf1 hwf2
  obtain ⟨k, hk, hk16⟩ := law_mod kd 16 (by omega) (by omega)
  have hkI : (k : Int) < 16 := by omega
  have HFX1 := Lib.hid (fun wx (h : Row wx a1 (PC z1)) => rfix6_any a1 cap1 z1 ((1 : Int) + k) wx h (by omega) hwf1)
  have HFX2 := Lib.hid (fun wx (h : Row wx a2 (PC z2)) => rfix6_any a2 cap2 z2 ((1 : Int) + k) wx h (by omega) hwf2)
  have HFD1 := Lib.hid (fix6_fixd z1 ((1 : Int) + k) (fun p hp => (hwf1 p hp).2.1))
  have HFD2 := Lib.hid (fix6_fixd z2 ((1 : Int) + k) (fun p hp => (hwf2 p hp).2.1))
  generalize fix6 z1 ((1 : Int) + k) = M at *
  generalize fix6 z2 ((1 : Int) + k) = N at *
  unfold OwnP at HFX1 HFX2
  have HR1 := Lib.hid hr1
  have HR2 := Lib.hid hr2
  clear hwf1 hwf2 w0 hr1 hr2 hnil1 hnil2
  have HTOL : ∀ (L : List Pr), L.length ≤ 9 → Hid (∀ (a : Option Addr) (c : Nat) (wx : World), Row wx a (PC L) → Calls Tryd.prog 13 #[.slice a L.length c] wx fun e w' => ∃ a' c', e = .returned (.slice a' L.length c') ∧ Row w' a' (PC L) ∧ Kept No wx w') := fun L hl => Lib.hid (fun a c wx h => (tolist_any a c L wx h (by omega)).mono fun e w' ⟨a', c', h1, h2, h3⟩ => ⟨a', c', h1, (own_row h2).1, h3⟩)
  have HPUT : ∀ (L : List Pr), (∀ p ∈ L, p.wf') → L.length ≤ 9 → Hid (∀ (a9 : Option Addr) (c9 : Nat) (wx : World), Row wx a9 (PC L) → Tabs wx → Calls Tryd.prog 12 #[.slice none 0 0, .slice a9 L.length c9] wx fun e w' => ∃ a' c', e = .returned (.slice a' (putL [] L).length c') ∧ Row w' a' (B8 (putL [] L)) ∧ (a' = none → (putL [] L).length = 0 ∧ c' = 0) ∧ Kept No wx w') := fun L hw hl => Lib.hid (fun a9 c9 wx h1 h2 => (put_any none 0 [] a9 c9 L wx (.nil _ _) (by simp) (by simp) h1 (by omega) hw h2).mono fun e w' ⟨a', c', q1, q2, q3⟩ => ⟨a', c', q1, (own_row q2).1, (own_row q2).2, q3⟩)
  have HCV : ∀ (L : List UInt8), Hid (∀ (a : Option Addr) (c : Nat) (wx : World), Row wx a (B8 L) → (a = none → L.length = 0 ∧ c = 0) → (convert 25 9 (.slice a L.length c)).run Tryd.prog wx = .ok (.string ⟨L.toArray⟩) wx) := fun L => Lib.hid (fun a c wx h1 h2 => cv33 (c := c) h1 (fun h => by have := h2 h; omega) wx (Kept.refl _ _))
  have HTO1 := HTOL M HFD1.out.len
  have HTO2 := HTOL N HFD2.out.len
  have HPU1 := HPUT M (fun p hp => (HFD1.out.sm p hp).1) HFD1.out.len
  have HPU2 := HPUT N (fun p hp => (HFD2.out.sm p hp).1) HFD2.out.len
  have HCV1 := HCV (putL [] M)
  have HCV2 := HCV (putL [] N)
  have HSM : Hid (∀ (a : Option Addr) (c : Nat) (a' : Option Addr) (c' : Nat) (wx : World), Row wx a (PC M) → Row wx a' (PC N) → Calls Tryd.prog 19 #[.slice a M.length c, .slice a' N.length c'] wx fun e w' => e = .returned (.bool (decide (M = N))) ∧ Kept No wx w') := Lib.hid (fun a c a' c' wx h1 h2 => rsame_any a c M a' c' N wx h1 h2 (by have := HFD1.out.len; omega) (by have := HFD2.out.len; omega))
  have HNZ : Hid (∀ Z : List Pr, Z.Perm M → Z.length = M.length) := Lib.hid (fun Z h => h.length_eq)
  have HTZ : Hid (∀ Z : List Pr, Z.Perm M → ∃ RL : List UInt8, RL.length ≤ 4010 ∧
      (∀ (a9 : Option Addr) (c9 : Nat) (wx : World), Row wx a9 (PC Z) → Tabs wx → Calls Tryd.prog 12 #[.slice none 0 0, .slice a9 M.length c9] wx fun e w' => ∃ a' c', e = .returned (.slice a' RL.length c') ∧ Row w' a' (B8 RL) ∧ (a' = none → RL.length = 0 ∧ c' = 0) ∧ Kept No wx w') ∧
      (∀ (wx : World) (r : Nat), Rdr wx r RL 0 → Tabs wx → Calls Tryd.prog 18 #[.pointer (some ⟨r, 0, none⟩)] wx fun e w' => ∃ a c, e = .returned (.tuple #[.slice a M.length c, .bool true]) ∧ Row w' a (PC (sortL Z)) ∧ Kept (One r) wx w' ∧ Rdr w' r [] 0) ∧
      (∀ (a : Option Addr) (c : Nat) (wx : World), Row wx a (PC Z) → Calls Tryd.prog 13 #[.slice a M.length c] wx fun e w' => ∃ a' c', e = .returned (.slice a' M.length c') ∧ Row w' a' (PC Z) ∧ Kept No wx w') ∧
      (∀ (a : Option Addr) (c : Nat) (wx : World), Row wx a (PC (sortL Z)) → Calls Tryd.prog 20 #[.slice a M.length c] wx fun e w' => ∃ a' c', e = .returned (.slice a' M.length c') ∧ Row w' a' (PC (sortL Z)) ∧ Kept No wx w') ∧
      (∀ (a : Option Addr) (c : Nat) (wx : World), Row wx a (PC Z) → (a = none → M.length = 0 ∧ c = 0) → Calls Tryd.prog 21 #[.slice a M.length c] wx fun e w' => ∃ a' c', e = .returned (.slice a' M.length c') ∧ Row w' a' (PC (sortL Z)) ∧ Kept No wx w') ∧
      (∀ (a : Option Addr) (c : Nat) (a' : Option Addr) (c' : Nat) (wx : World), Row wx a (PC (sortL Z)) → Row wx a' (PC (sortL Z)) → Calls Tryd.prog 19 #[.slice a M.length c, .slice a' M.length c'] wx fun e w' => e = .returned (.bool true) ∧ Kept No wx w')) := Lib.hid (fun Z hZ => by
    obtain ⟨t1, t2, t3, t4, t5, t6⟩ := HFD1.out.putPerm hZ
    have hzl := hZ.length_eq
    have hz9 := HFD1.out.len
    have hsl := sortL_length Z
    have hw : ∀ p ∈ Z, p.wf' := fun p hp => (HFD1.out.sm p (hZ.mem_iff.1 hp)).1
    rw [← hzl] at hz9 ⊢
    refine ⟨putL [] Z, t1, (HPUT Z hw hz9).out, fun wx r hx ht => ?_, (HTOL Z hz9).out, fun a c wx h => ?_, fun a c wx h1 h2 => ?_, fun a c a' c' wx h1 h2 => ?_⟩
    · have := ptake_any wx r (putL [] Z) 0 hx (by omega) ht (fun _ _ => sort_any _ (by rw [t5, t6]; show Z.length ≤ 100000; omega))
      rw [t2, t3, t4] at this
      exact this.mono fun e w' ⟨a, c, q1, q2, q3, q4⟩ => ⟨a, c, by rw [q1]; show _ = Ending.returned (.tuple #[.slice a Z.length c, .bool true]); rw [hsl], q2, q4.kept, q4.rdr⟩
    · have := fromlist_any a c (sortL Z) wx h (by omega)
      rw [hsl] at this
      exact this.mono fun e w' ⟨a', c', h1, h2, h3⟩ => ⟨a', c', by rw [h1, hsl], (own_row h2).1, h3⟩
    · exact (rsort_any a c Z wx h1 h2 (by omega)).mono fun e w' ⟨a', c', h1, h2, h3⟩ => ⟨a', c', by rw [h1, hsl], (own_row h2).1, h3⟩
    · have := rsame_any a c (sortL Z) a' c' (sortL Z) wx h1 h2 (by omega) (by omega)
      rw [decide_eq_true rfl, hsl] at this
      exact this)
  have HEQ : Hid (((⟨(putL [] M).toArray⟩ : ByteArray).toList == (⟨(putL [] N).toArray⟩ : ByteArray).toList) = decide (M = N)) := Lib.hid (by
    have h := HFD1.out.putInj HFD2.out
    have h2 : decide ((⟨(putL [] M).toArray⟩ : ByteArray) = ⟨(putL [] N).toArray⟩) = decide (M = N) := decide_eq_decide.2 ⟨fun e => h.1 (by simpa using e), fun e => by rw [e]⟩
    rw [← h2, Bool.eq_iff_iff]
    simp [toList_inj])
  have HTC : Hid (∀ i, i < lt → ∃ x t, at_ = some x ∧ ∀ wx, Kept No w wx → wx.cell? (x.add i) = some (.int .i64 t)) := Lib.hid (fun i hi => by
    rcases w3 with ⟨_, h0, _⟩ | ⟨x, rfl, hle, _, hl, hc, _⟩
    · omega
    · refine ⟨x, T.getD i 0, rfl, fun wx hk => ?_⟩
      have h := hc i (by omega)
      rw [hk.cell (World.block_lt_of_cell? w _ h) (fun f => f)]
      exact h)
  have hM9 : M.length ≤ 9 := HFD1.out.len
  clear HTOL HPUT HCV HFD1 HFD2 w3
  generalize decide (M = N) = sb at *
  generalize (⟨(putL [] M).toArray⟩ : ByteArray) = SA at *
  generalize (⟨(putL [] N).toArray⟩ : ByteArray) = SB at *
  generalize (putL [] M).length = m at *
  generalize (putL [] N).length = n at *
  generalize B8 (putL [] M) = PB at *
  generalize B8 (putL [] N) = QB at *
  have hl1 : ∃ nz, nz = M.length := ⟨_, rfl⟩
  obtain ⟨nz, hnz⟩ := hl1
  have HMZ := Lib.hid hnz
  rw [← hnz] at HFX1 HTO1 HPU1 HSM HNZ HTZ hM9
  clear hnz
  generalize z1.length = n1 at *
  generalize z2.length = n2 at *
  go_enter Tryd.func8, Tryd.ntmps8
  have hb := Blk.new w 68 #[.slice a1 n1 cap1, .slice a2 n2 cap2]
  have b0 : (w.alloc (.cells #[.slice a1 n1 cap1, .slice a2 n2 cap2] 68)).drew.cell? ⟨w.heap.size, 0, none⟩ = some (.slice a1 n1 cap1) := hb.cell 0
  have b1 : (w.alloc (.cells #[.slice a1 n1 cap1, .slice a2 n2 cap2] 68)).drew.cell? ⟨w.heap.size, 1, none⟩ = some (.slice a2 n2 cap2) := hb.cell 1
  have hkA : Kept No w (w.alloc (.cells #[.slice a1 n1 cap1, .slice a2 n2 cap2] 68)) := (Kept.refl No w).alloc _
  clear hb
  go_wp2_with fail
  generalize w.alloc (.cells #[.slice a1 n1 cap1, .slice a2 n2 cap2] 68) = wA at *
  generalize hg : w.heap.size = g at *
  refine wp_region_held_drew (S := (fun wx => wx.cell? ⟨g, 0, none⟩ = some (.slice a1 n1 cap1) ∧ wx.cell? ⟨g, 1, none⟩ = some (.slice a2 n2 cap2) ∧ Kept No w wx)) (by kernel_rfl) ?_ (fun hHeld => ?_)
  · exact ⟨b0, b1, hkA.drew⟩
  refine wpAnyH_take (i := 0) (v := (.pointer (some ⟨g, 0, none⟩))) rfl (by kernel_rfl) (by kernel_rfl) (by kernel_rfl) (fun _ _ _ h => h) (Or.inl ⟨by rfl, ?hhr10⟩) (by assumption) ?rrr10
  case hhr10 => (intro wz9 hSw; (try dsimp only at hSw); go_simp; try with_reducible rfl)
  go_simp
  refine wpAnyH_take (i := 1) (v := (.slice a1 n1 cap1)) rfl (by kernel_rfl) (by kernel_rfl) (by kernel_rfl) (fun _ _ _ h => h) (Or.inl ⟨by rfl, ?hhr11⟩) (by assumption) ?rrr11
  case hhr11 => (intro wz9 hSw; have h0 := hSw.1; clear hSw b0 b1; go_simp; try with_reducible rfl)
  go_simp
  refine wpAnyH_take (i := 2) (v := (.pointer (some ⟨g, 1, none⟩))) rfl (by kernel_rfl) (by kernel_rfl) (by kernel_rfl) (fun _ _ _ h => h) (Or.inl ⟨by rfl, ?hhr12⟩) (by assumption) ?rrr12
  case hhr12 => (intro wz9 hSw; (try dsimp only at hSw); go_simp; try with_reducible rfl)
  go_simp
  refine wpAnyH_take (i := 3) (v := (.slice a2 n2 cap2)) rfl (by kernel_rfl) (by kernel_rfl) (by kernel_rfl) (fun _ _ _ h => h) (Or.inl ⟨by rfl, ?hhr13⟩) (by assumption) ?rrr13
  case hhr13 => (intro wz9 hSw; have h0 := hSw.2.1; clear hSw b0 b1; go_simp; try with_reducible rfl)
  go_simp
  refine wpAnyH_take (i := 4) (v := ?vvr14) rfl (by kernel_rfl) (by kernel_rfl) (by kernel_rfl) (fun _ _ _ h => h) (Or.inl ⟨by rfl, ?hhr14⟩) (by assumption) ?rrr14
  case hhr14 => (intro wz9 hSw; (try dsimp only at hSw); go_simp; try with_reducible rfl)
  go_simp
  refine wpAnyH_take (i := 5) (v := ?vvr15) rfl (by kernel_rfl) (by kernel_rfl) (by kernel_rfl) (fun _ _ _ h => h) (Or.inl ⟨by rfl, ?hhr15⟩) (by assumption) ?rrr15
  case hhr15 => (intro wz9 hSw; (try dsimp only at hSw); go_simp; try with_reducible rfl)
  go_simp
  refine wpAnyH_done (by kernel_rfl) ?_ _
  have hkB := hHeld.2.2
  clear hHeld b0 b1
  go_wp2_with fail
  go_at_call 34
  refine (HFX1.out _ (HR1.out.keptNo hkB)).mono ?_
  rintro e w4 ⟨a4, c4, rfl, hown4, hk4⟩
  obtain ⟨hr4, hn4⟩ := own_row hown4
  have hk4 := hkB.trans hk4
  clear hown4
  go_wp2_with fail
  go_at_call 34
  refine (HFX2.out _ (HR2.out.keptNo hk4)).mono ?_
  rintro e w5 ⟨a5, c5, rfl, hown5, hk5⟩
  obtain ⟨hr5, hn5⟩ := own_row hown5
  have hr4 := hr4.keptNo hk5
  have hk5 := hk4.trans hk5
  clear hown5 hk4
  have hT5 := hT.kept hk5
  go_wp2_with fail
  refine wp_region_held_drew (S := (fun wx => Kept No w5 wx)) (by kernel_rfl) ?_ (fun hHeld => ?_)
  · exact (Kept.refl No w5).drew
  refine wpAnyH_ready (rs := [0]) (by kernel_rfl) (by simp) ?_
  refine AllReadyH.cons rfl (fun K9 hK9 => ?_) AllReadyH.nil
  go_simp
  go_wp2_with (go_at_call 11; refine (told6_any _ (hT5.kept hHeld)).mono ?_; rintro e y0 ⟨rfl, j0⟩)
  refine hK9.out _ _ ?_ (fun hHeld => ?_)
  · exact hHeld.trans j0
  clear hK9 K9
  refine wpAnyH_take (i := 1) (v := (.bool false)) rfl (by kernel_rfl) (by kernel_rfl) (by kernel_rfl) (fun _ _ _ h => h) (Or.inl ⟨by rfl, ?hhr41⟩) (by assumption) ?rrr41
  case hhr41 => (intro wz9 hSw; (try dsimp only at hSw); go_simp; try with_reducible rfl)
  go_simp
  refine wpAnyH_take (i := 2) (v := (.bool false)) rfl (by kernel_rfl) (by kernel_rfl) (by kernel_rfl) (fun _ _ _ h => h) (Or.inl ⟨by rfl, ?hhr42⟩) (by assumption) ?rrr42
  case hhr42 => (intro wz9 hSw; (try dsimp only at hSw); go_simp; try with_reducible rfl)
  go_simp
  refine wpAnyH_take (i := 3) (v := ?vvr43) rfl (by kernel_rfl) (by kernel_rfl) (by kernel_rfl) (fun _ _ _ h => h) (Or.inl ⟨by rfl, ?hhr43⟩) (by assumption) ?rrr43
  case hhr43 => (intro wz9 hSw; (try dsimp only at hSw); go_simp; try with_reducible rfl)
  go_simp
  refine wpAnyH_take (i := 7) (v := ?vvr47) rfl (by kernel_rfl) (by kernel_rfl) (by kernel_rfl) (fun _ _ _ h => h) (Or.inl ⟨by rfl, ?hhr47⟩) (by assumption) ?rrr47
  case hhr47 => (intro wz9 hSw; (try dsimp only at hSw); go_simp; try with_reducible rfl)
  go_simp
  refine wpAnyH_take (i := 12) (v := ?vvr412) rfl (by kernel_rfl) (by kernel_rfl) (by kernel_rfl) (fun _ _ _ h => h) (Or.inl ⟨by rfl, ?hhr412⟩) (by assumption) ?rrr412
  case hhr412 => (intro wz9 hSw; (try dsimp only at hSw); go_simp; try with_reducible rfl)
  go_simp
  refine wpAnyH_take (i := 13) (v := ?vvr413) rfl (by kernel_rfl) (by kernel_rfl) (by kernel_rfl) (fun _ _ _ h => h) (Or.inl ⟨by rfl, ?hhr413⟩) (by assumption) ?rrr413
  case hhr413 => (intro wz9 hSw; (try dsimp only at hSw); go_simp; try with_reducible rfl)
  go_simp
  refine wpAnyH_ready (rs := [4]) (by kernel_rfl) (by simp) ?_
  refine AllReadyH.cons rfl (fun K9 hK9 => ?_) AllReadyH.nil
  go_simp
  go_wp2_with (go_at_call 13; refine (HTO1.out _ _ _ (hr4.keptNo hHeld)).mono ?_; rintro e y1 ⟨b1, d1, rfl, hr6, j1⟩)
  refine hK9.out _ _ ?_ (fun hHeld => ?_)
  · exact hHeld.trans j1
  clear hK9 K9
  refine wpAnyH_ready (rs := [5]) (by kernel_rfl) (by simp) ?_
  refine AllReadyH.cons rfl (fun K9 hK9 => ?_) AllReadyH.nil
  go_simp
  go_wp2_with (go_at_call 12; refine (HPU1.out _ _ _ hr6 (hT5.kept hHeld)).mono ?_; rintro e y2 ⟨b2, d2, rfl, hr7, hn7, j2⟩)
  refine hK9.out _ _ ?_ (fun hHeld => ?_)
  · exact hHeld.trans j2
  clear hK9 K9
  refine wpAnyH_more (S9 := fun wx => Kept No w5 wx ∧ Kept No y2 wx) (fun _ h => h.1) ?_
  have hHeld : (fun wx => Kept No w5 wx ∧ Kept No y2 wx) y2 := ⟨hHeld, Kept.refl No y2⟩
  refine wpAnyH_take (i := 6) (v := (.string SA)) rfl (by kernel_rfl) (by kernel_rfl) (by kernel_rfl) (fun _ _ _ h => h) (Or.inl ⟨by rfl, ?hhr46⟩) (by assumption) ?rrr46
  case hhr46 => (intro wz9 hSw; have h0 := HCV1.out b2 d2 wz9 (hr7.keptNo hSw.2) hn7; clear hSw; go_simp; try with_reducible rfl)
  go_simp
  refine wpAnyH_ready (rs := [8]) (by kernel_rfl) (by simp) ?_
  refine AllReadyH.cons rfl (fun K9 hK9 => ?_) AllReadyH.nil
  go_simp
  go_wp2_with (go_at_call 13; refine (HTO2.out _ _ _ (hr5.keptNo hHeld.1)).mono ?_; rintro e y3 ⟨b3, d3, rfl, hr8, j3⟩)
  refine hK9.out _ _ ?_ (fun hHeld => ?_)
  · exact ⟨hHeld.1.trans j3, hHeld.2.trans j3⟩
  clear hK9 K9
  refine wpAnyH_ready (rs := [9]) (by kernel_rfl) (by simp) ?_
  refine AllReadyH.cons rfl (fun K9 hK9 => ?_) AllReadyH.nil
  go_simp
  go_wp2_with (go_at_call 12; refine (HPU2.out _ _ _ hr8 (hT5.kept hHeld.1)).mono ?_; rintro e y4 ⟨b4, d4, rfl, hr9, hn9, j4⟩)
  refine hK9.out _ _ ?_ (fun hHeld => ?_)
  · exact ⟨hHeld.1.trans j4, hHeld.2.trans j4⟩
  clear hK9 K9
  refine wpAnyH_more (S9 := fun wx => (Kept No w5 wx ∧ Kept No y2 wx) ∧ Kept No y4 wx) (fun _ h => h.1) ?_
  have hHeld : (fun wx => (Kept No w5 wx ∧ Kept No y2 wx) ∧ Kept No y4 wx) y4 := ⟨hHeld, Kept.refl No y4⟩
  refine wpAnyH_take (i := 10) (v := (.string SB)) rfl (by kernel_rfl) (by kernel_rfl) (by kernel_rfl) (fun _ _ _ h => h) (Or.inl ⟨by rfl, ?hhr410⟩) (by assumption) ?rrr410
  case hhr410 => (intro wz9 hSw; have h0 := HCV2.out b4 d4 wz9 (hr9.keptNo hSw.2) hn9; clear hSw; go_simp; try with_reducible rfl)
  go_simp
  refine wpAnyH_take (i := 11) (v := (.bool sb)) rfl (by kernel_rfl) (by kernel_rfl) (by kernel_rfl) (fun _ _ _ h => h) (Or.inl ⟨by rfl, ?hhr411⟩) (by assumption) ?rrr411
  case hhr411 => (intro wz9 hSw; clear hSw; have h0 := HEQ.out; go_simp; first | done | exact h0 | (rw [h0]; done))
  go_simp
  refine wpAnyH_ready (rs := [14]) (by kernel_rfl) (by simp) ?_
  refine AllReadyH.cons rfl (fun K9 hK9 => ?_) AllReadyH.nil
  go_simp
  go_wp2_with (go_at_call 19; refine (HSM.out _ _ _ _ _ (hr4.keptNo hHeld.1.1) (hr5.keptNo hHeld.1.1)).mono ?_; rintro e y5 ⟨rfl, j5⟩)
  refine hK9.out _ _ ?_ (fun hHeld => ?_)
  · exact ⟨⟨hHeld.1.1.trans j5, hHeld.1.2.trans j5⟩, hHeld.2.trans j5⟩
  clear hK9 K9
  refine wpAnyH_take (i := 15) (v := (.bool false)) rfl (by kernel_rfl) (by kernel_rfl) (by kernel_rfl) (fun _ _ _ h => h) (Or.inl ⟨by rfl, ?hhr415⟩) (by assumption) ?rrr415
  case hhr415 => (intro wz9 hSw; (try dsimp only at hSw); go_simp; try with_reducible rfl)
  go_simp
  refine wpAnyH_take (i := 16) (v := (.bool false)) rfl (by kernel_rfl) (by kernel_rfl) (by kernel_rfl) (fun _ _ _ h => h) (Or.inl ⟨by rfl, ?hhr416⟩) (by assumption) ?rrr416
  case hhr416 => (intro wz9 hSw; (try dsimp only at hSw); go_simp; try with_reducible rfl)
  go_simp
  refine wpAnyH_done (by kernel_rfl) ?_ _
  have hk6 := hHeld.1.1
  have hrx := hr4.keptNo hk6
  have hkW := hk5.trans hk6
  have hTW := hT5.kept hk6
  clear hHeld hr4 hr5 hr6 hr7 hr8 hr9 hn7 hn9 j0 j1 j2 j3 j4 j5 hk5 hk6 hT5 hn5 HFX1 HFX2 HEQ HSM HCV1 HCV2 HPU1 HPU2 HTO1 HTO2 HR1 HR2
  generalize y5 = wQ at *
  obtain ⟨i0, hi, hz0, hz1, hz2⟩ := info_parts info_rprop
  by_cases hM0 : nz = 0
  case neg =>
    have hN0 : 0 < nz := by omega
    obtain ⟨ad, rfl⟩ : ∃ ad, a4 = some ad := by
      cases a4 with
      | none => have := hn4 rfl; omega
      | some ad => exact ⟨ad, rfl⟩
    have HC0 := Lib.hid ((hrx.keptNo ((Kept.refl No wQ).alloc (.cells #[] 58))).at_add ad rfl)
    have HL0 : Hid ((PC M).length = nz * 4) := Lib.hid (by rw [PC_length, HMZ.out])
    clear hrx hn4
    go_wp2_with (at_builtin; refine wpList_append_own _ rfl _ _ _ rfl wQ.heap.size 58 i0 _ 4 40 Tryd.underlying22 hi hz0 hz1 hz2 rfl (by decide) _ _ _ rfl (own_emptyK wQ _ _ 4 (Nat.le_refl _)) ad nz c4 (PC M) rfl HL0.out HC0.out (PC_cell1 _) ?c1 ?c2 ?c3 ?_; rotate_right; intro v1 w1 hown1 hg1 hv1)
    case c1 => unfold maxLen; omega
    case c2 => omega
    case c3 => simp
    have hk1 : Kept No wQ w1 := ((Kept.refl No wQ).alloc _).grown hg1 (own_no (own_emptyK wQ _ 58 4 (Nat.le_refl _)))
    rw [List.nil_append, Nat.zero_add] at hown1
    obtain ⟨az, cz, rfl, _, _⟩ := own_form hown1
    obtain ⟨g2, X, rfl, hg2, hnc, hd, hback⟩ := dat_of_own hown1 hN0 HMZ.out
    have HD := Lib.hid hd
    have hkS := hkW.trans hk1
    have hTS := hTW.kept hk1
    have hgg : w.heap.size ≤ g2 := by have := hkW.size; omega
    have HBK : Hid (∀ Z wx, Z.Perm M → Dat 58 wx g2 X Z → Row wx (some ⟨g2, 0, none⟩) (PC Z)) := Lib.hid (fun Z wx hz hx => (own_row (hback Z wx (HNZ.out Z hz) hx)).1)
    clear hd hback hown1 hv1 hg1 hk1 HC0 HL0 hkW hTW hM0
    generalize w1 = wS at *
    go_wp2
    go_loopw [13] (fun vi wr => ∃ (i : Nat) (Z : List Pr), vi = .int .i64 i ∧ i ≤ 10 ∧ i ≤ lt ∧ Hid (Z.Perm M) ∧ Hid (Dat 58 wr g2 X Z) ∧ Kept (One g2) wS wr) (fun i _ => 10 - (intOf i).toNat)
    case atStart => exact ⟨0, M, rfl, by omega, by omega, Lib.hid (List.Perm.refl _), HD, Kept.refl _ _⟩
    case round =>
      obtain ⟨i, Z, rfl, hi10, hilt, HZ, HDZ, hkw⟩ := hrel
      have hkR : Kept No w wr := hkS.then hkw (fun j hj e => by have : j = g2 := e; omega)
      by_cases h1 : i < lt
      · by_cases h2 : i < 10
        · have h1z : (i : Int) < (lt : Int) := by omega
          have h2z : (i : Int) < 10 := by omega
          have h3z : (0 : Int) < (nz : Int) := by omega
          have hnz0 : ((nz : Int) == 0) = false := by simp; omega
          obtain ⟨x, tv, rfl, hct⟩ := HTC.out i h1
          have HCT := Lib.hid hct
          have hw0 : 0 ≤ IntKind.u64.wrap tv := by rw [IntKind.wrap_u64]; exact Int.emod_nonneg _ (by decide)
          have hw2 := Int.tmod_nonneg (nz : Int) hw0
          have hw3 := Int.tmod_lt_of_pos (IntKind.u64.wrap tv) h3z
          obtain ⟨q, hqt⟩ : ∃ q : Nat, Int.tmod (IntKind.u64.wrap tv) (nz : Int) = (q : Int) := ⟨(Int.tmod (IntKind.u64.wrap tv) (nz : Int)).toNat, by omega⟩
          have hqZ : q < nz := by omega
          have hwq : IntKind.i64.wrap (q : Int) = (q : Int) := by rw [IntKind.wrap_i64]; omega
          clear hw0 hw2 hw3
          obtain ⟨p, hp⟩ : ∃ p, p = i % nz := ⟨_, rfl⟩
          have hpZ : p < nz := by rw [hp]; exact Nat.mod_lt _ hN0
          have hpv : Int.tmod (i : Int) (nz : Int) = (p : Int) := by rw [hp]; exact (Int.ofNat_tmod i nz).symm
          have hwn : IntKind.u64.wrap (nz : Int) = (nz : Int) := by rw [IntKind.wrap_u64]; omega
          have hpz : (p : Int) < (nz : Int) := by omega
          have hqz : (q : Int) < (nz : Int) := by omega
          have hZl : Z.length = nz := HNZ.out Z HZ.out
          have hp' : p < Z.length := by omega
          have hq' : q < Z.length := by omega
          obtain ⟨up, hup⟩ : ∃ up, up = Z[p] := ⟨_, rfl⟩
          obtain ⟨uq, huq⟩ : ∃ uq, uq = Z[q] := ⟨_, rfl⟩
          have HLP : Hid (∀ wx, Dat 58 wx g2 X Z → (Instr.loadAt 58 (.pointer (some ⟨g2, p * 4, none⟩))).run Tryd.prog wx = .ok up.val wx ∧ wx.cell? ⟨g2, p * 4, none⟩ = some (.int .u8 up.id)) := Lib.hid (fun wx h => by rw [hup]; exact h.atR hp')
          have HLQ : Hid (∀ wx, Dat 58 wx g2 X Z → (Instr.loadAt 58 (.pointer (some ⟨g2, q * 4, none⟩))).run Tryd.prog wx = .ok uq.val wx ∧ wx.cell? ⟨g2, q * 4, none⟩ = some (.int .u8 uq.id)) := Lib.hid (fun wx h => by rw [huq]; exact h.atR hq')
          have HSW : Hid (up.id ≠ uq.id → ∀ wx, Dat 58 wx g2 X Z → ∃ w1, (Instr.storeAt 58 (.pointer (some ⟨g2, p * 4, none⟩)) uq.val).run Tryd.prog wx = .ok () w1 ∧ Kept (One g2) wx w1 ∧ ∃ w2, (Instr.storeAt 58 (.pointer (some ⟨g2, q * 4, none⟩)) up.val).run Tryd.prog w1 = .ok () w2 ∧ Kept (One g2) w1 w2 ∧ ∃ Z', Dat 58 w2 g2 X Z' ∧ Z'.Perm Z) := Lib.hid (fun hne wx h => by
            rw [hup, huq]
            exact h.swapR hp' hq' (fun e => hne (by rw [hup, huq]; subst e; rfl)))
          clear hct hp hup huq hp' hq' hZl
          go_wp2
          refine wp_region_held_drew (S := (fun wx => Kept No w wx)) (by kernel_rfl) ?_ (fun hHeld => ?_)
          · exact hkR.drew
          refine wpAnyH_take (i := 0) (v := ?vvra0) rfl (by kernel_rfl) (by kernel_rfl) (by kernel_rfl) (fun _ _ _ h => h) (Or.inl ⟨by rfl, ?hhra0⟩) (by assumption) ?rrra0
          case hhra0 => (intro wz9 hSw; (try dsimp only at hSw); go_simp; try with_reducible rfl)
          go_simp
          refine wpAnyH_take (i := 1) (v := (.slice (some ⟨g2, 0, none⟩) nz cz)) rfl (by kernel_rfl) (by kernel_rfl) (by kernel_rfl) (fun _ _ _ h => h) (Or.inl ⟨by rfl, ?hhra1⟩) (by assumption) ?rrra1
          case hhra1 => (intro wz9 hSw; (try dsimp only at hSw); go_simp; try with_reducible rfl)
          go_simp
          refine wpAnyH_take (i := 2) (v := (.int .i64 (nz : Int))) rfl (by kernel_rfl) (by kernel_rfl) (by kernel_rfl) (fun _ _ _ h => h) (Or.inl ⟨by rfl, ?hhra2⟩) (by assumption) ?rrra2
          case hhra2 => (intro wz9 hSw; (try dsimp only at hSw); go_simp; try with_reducible rfl)
          go_simp
          refine wpAnyH_take (i := 3) (v := (.int .i64 (p : Int))) rfl (by kernel_rfl) (by kernel_rfl) (by kernel_rfl) (fun _ _ _ h => h) (Or.inl ⟨by rfl, ?hhra3⟩) (by assumption) ?rrra3
          case hhra3 => (intro wz9 hSw; clear hSw; go_simp; first | done | omega | exact hpv | (rw [hpv]; done) | trace_state)
          go_simp
          refine wpAnyH_take (i := 4) (v := ?vvra4) rfl (by kernel_rfl) (by kernel_rfl) (by kernel_rfl) (fun _ _ _ h => h) (Or.inl ⟨by rfl, ?hhra4⟩) (by assumption) ?rrra4
          case hhra4 => (intro wz9 hSw; (try dsimp only at hSw); go_simp; try with_reducible rfl)
          go_simp
          refine wpAnyH_take (i := 5) (v := ?vvra5) rfl (by kernel_rfl) (by kernel_rfl) (by kernel_rfl) (fun _ _ _ h => h) (Or.inl ⟨by rfl, ?hhra5⟩) (by assumption) ?rrra5
          case hhra5 => (intro wz9 hSw; (try dsimp only at hSw); go_simp; try with_reducible rfl)
          go_simp
          refine wpAnyH_take (i := 6) (v := (.pointer (some (x.add i)))) rfl (by kernel_rfl) (by kernel_rfl) (by kernel_rfl) (fun _ _ _ h => h) (Or.inl ⟨by rfl, ?hhra6⟩) (by assumption) ?rrra6
          case hhra6 => (intro wz9 hSw; (try dsimp only at hSw); go_simp; try with_reducible rfl)
          go_simp
          refine wpAnyH_take (i := 7) (v := (.int .i64 tv)) rfl (by kernel_rfl) (by kernel_rfl) (by kernel_rfl) (fun _ _ _ h => h) (Or.inl ⟨by rfl, ?hhra7⟩) (by assumption) ?rrra7
          case hhra7 => (intro wz9 hSw; have h0 := HCT.out wz9 hSw; clear hSw; go_simp; try with_reducible rfl)
          go_simp
          refine wpAnyH_take (i := 8) (v := (.int .u64 (IntKind.u64.wrap tv))) rfl (by kernel_rfl) (by kernel_rfl) (by kernel_rfl) (fun _ _ _ h => h) (Or.inl ⟨by rfl, ?hhra8⟩) (by assumption) ?rrra8
          case hhra8 => (intro wz9 hSw; clear hSw; go_simp; try with_reducible rfl)
          go_simp
          refine wpAnyH_take (i := 9) (v := (.slice (some ⟨g2, 0, none⟩) nz cz)) rfl (by kernel_rfl) (by kernel_rfl) (by kernel_rfl) (fun _ _ _ h => h) (Or.inl ⟨by rfl, ?hhra9⟩) (by assumption) ?rrra9
          case hhra9 => (intro wz9 hSw; (try dsimp only at hSw); go_simp; try with_reducible rfl)
          go_simp
          refine wpAnyH_take (i := 10) (v := (.int .i64 (nz : Int))) rfl (by kernel_rfl) (by kernel_rfl) (by kernel_rfl) (fun _ _ _ h => h) (Or.inl ⟨by rfl, ?hhra10⟩) (by assumption) ?rrra10
          case hhra10 => (intro wz9 hSw; (try dsimp only at hSw); go_simp; try with_reducible rfl)
          go_simp
          refine wpAnyH_take (i := 11) (v := (.int .u64 (nz : Int))) rfl (by kernel_rfl) (by kernel_rfl) (by kernel_rfl) (fun _ _ _ h => h) (Or.inl ⟨by rfl, ?hhra11⟩) (by assumption) ?rrra11
          case hhra11 => (intro wz9 hSw; clear hSw; go_simp; first | done | rw [hwn] | (simp [hwn]; done))
          go_simp
          refine wpAnyH_take (i := 12) (v := (.int .u64 (q : Int))) rfl (by kernel_rfl) (by kernel_rfl) (by kernel_rfl) (fun _ _ _ h => h) (Or.inl ⟨by rfl, ?hhra12⟩) (by assumption) ?rrra12
          case hhra12 => (intro wz9 hSw; clear hSw; go_simp; first | done | omega | with_reducible rfl | exact hqt | exact ⟨by omega, hqt⟩ | trace_state)
          go_simp
          refine wpAnyH_take (i := 13) (v := (.int .i64 (q : Int))) rfl (by kernel_rfl) (by kernel_rfl) (by kernel_rfl) (fun _ _ _ h => h) (Or.inl ⟨by rfl, ?hhra13⟩) (by assumption) ?rrra13
          case hhra13 => (intro wz9 hSw; clear hSw; go_simp; first | done | omega | exact hwq | (rw [hwq]; done) | trace_state)
          go_simp
          refine wpAnyH_take (i := 14) (v := ?vvra14) rfl (by kernel_rfl) (by kernel_rfl) (by kernel_rfl) (fun _ _ _ h => h) (Or.inl ⟨by rfl, ?hhra14⟩) (by assumption) ?rrra14
          case hhra14 => (intro wz9 hSw; (try dsimp only at hSw); go_simp; try with_reducible rfl)
          go_simp
          refine wpAnyH_take (i := 15) (v := ?vvra15) rfl (by kernel_rfl) (by kernel_rfl) (by kernel_rfl) (fun _ _ _ h => h) (Or.inl ⟨by rfl, ?hhra15⟩) (by assumption) ?rrra15
          case hhra15 => (intro wz9 hSw; (try dsimp only at hSw); go_simp; try with_reducible rfl)
          go_simp
          refine wpAnyH_done (by kernel_rfl) ?_ _
          have hkR2 : Kept (One g2) wS wr.drew := hkw.drew
          have hDa := HDZ.out.kept (S := No) ((Kept.refl No wr).drew) (fun f => f)
          clear hHeld hkR hkw HDZ
          generalize wr.drew = w3 at *
          clear hpv hqt hwq hwn
          by_cases hide : up.id = uq.id
          · have hideI : ((up.id : Int) != (uq.id : Int)) = false := by simp [hide]
            have hideE : (up.id : Int) = (uq.id : Int) := by omega
            go_wp2
            refine wp_region_held_drew (S := (fun wx => Dat 58 wx g2 X Z ∧ Kept No w3 wx)) (by kernel_rfl) ?_ (fun hHeld => ?_)
            · exact ⟨hDa.kept (S := No) ((Kept.refl No w3).drew) (fun f => f), (Kept.refl No w3).drew⟩
            refine wpAnyH_take (i := 0) (v := (.slice (some ⟨g2, 0, none⟩) nz cz)) rfl (by kernel_rfl) (by kernel_rfl) (by kernel_rfl) (fun _ _ _ h => h) (Or.inl ⟨by rfl, ?hhrc0⟩) (by assumption) ?rrrc0
            case hhrc0 => (intro wz9 hSw; (try dsimp only at hSw); go_simp; try with_reducible rfl)
            go_simp
            refine wpAnyH_take (i := 1) (v := (.int .i64 (p : Int))) rfl (by kernel_rfl) (by kernel_rfl) (by kernel_rfl) (fun _ _ _ h => h) (Or.inl ⟨by rfl, ?hhrc1⟩) (by assumption) ?rrrc1
            case hhrc1 => (intro wz9 hSw; (try dsimp only at hSw); go_simp; try with_reducible rfl)
            go_simp
            refine wpAnyH_take (i := 2) (v := (.pointer (some ⟨g2, p * 4, none⟩))) rfl (by kernel_rfl) (by kernel_rfl) (by kernel_rfl) (fun _ _ _ h => h) (Or.inl ⟨by rfl, ?hhrc2⟩) (by assumption) ?rrrc2
            case hhrc2 => (intro wz9 hSw; (try dsimp only at hSw); go_simp; try with_reducible rfl)
            go_simp
            refine wpAnyH_take (i := 3) (v := (.pointer (some ⟨g2, p * 4, none⟩))) rfl (by kernel_rfl) (by kernel_rfl) (by kernel_rfl) (fun _ _ _ h => h) (Or.inl ⟨by rfl, ?hhrc3⟩) (by assumption) ?rrrc3
            case hhrc3 => (intro wz9 hSw; (try dsimp only at hSw); go_simp; try with_reducible rfl)
            go_simp
            refine wpAnyH_take (i := 4) (v := (.int .u8 (up.id : Int))) rfl (by kernel_rfl) (by kernel_rfl) (by kernel_rfl) (fun _ _ _ h => h) (Or.inl ⟨by rfl, ?hhrc4⟩) (by assumption) ?rrrc4
            case hhrc4 => (intro wz9 hSw; have hc := (HLP.out wz9 hSw.1).2; clear hSw; go_simp; try with_reducible rfl)
            go_simp
            refine wpAnyH_take (i := 5) (v := (.slice (some ⟨g2, 0, none⟩) nz cz)) rfl (by kernel_rfl) (by kernel_rfl) (by kernel_rfl) (fun _ _ _ h => h) (Or.inl ⟨by rfl, ?hhrc5⟩) (by assumption) ?rrrc5
            case hhrc5 => (intro wz9 hSw; (try dsimp only at hSw); go_simp; try with_reducible rfl)
            go_simp
            refine wpAnyH_take (i := 6) (v := (.int .i64 (q : Int))) rfl (by kernel_rfl) (by kernel_rfl) (by kernel_rfl) (fun _ _ _ h => h) (Or.inl ⟨by rfl, ?hhrc6⟩) (by assumption) ?rrrc6
            case hhrc6 => (intro wz9 hSw; (try dsimp only at hSw); go_simp; try with_reducible rfl)
            go_simp
            refine wpAnyH_take (i := 7) (v := (.pointer (some ⟨g2, q * 4, none⟩))) rfl (by kernel_rfl) (by kernel_rfl) (by kernel_rfl) (fun _ _ _ h => h) (Or.inl ⟨by rfl, ?hhrc7⟩) (by assumption) ?rrrc7
            case hhrc7 => (intro wz9 hSw; (try dsimp only at hSw); go_simp; try with_reducible rfl)
            go_simp
            refine wpAnyH_take (i := 8) (v := (.pointer (some ⟨g2, q * 4, none⟩))) rfl (by kernel_rfl) (by kernel_rfl) (by kernel_rfl) (fun _ _ _ h => h) (Or.inl ⟨by rfl, ?hhrc8⟩) (by assumption) ?rrrc8
            case hhrc8 => (intro wz9 hSw; (try dsimp only at hSw); go_simp; try with_reducible rfl)
            go_simp
            refine wpAnyH_take (i := 9) (v := (.int .u8 (uq.id : Int))) rfl (by kernel_rfl) (by kernel_rfl) (by kernel_rfl) (fun _ _ _ h => h) (Or.inl ⟨by rfl, ?hhrc9⟩) (by assumption) ?rrrc9
            case hhrc9 => (intro wz9 hSw; have hc := (HLQ.out wz9 hSw.1).2; clear hSw; go_simp; try with_reducible rfl)
            go_simp
            refine wpAnyH_take (i := 10) (v := (.bool false)) rfl (by kernel_rfl) (by kernel_rfl) (by kernel_rfl) (fun _ _ _ h => h) (Or.inl ⟨by rfl, ?hhrc10⟩) (by assumption) ?rrrc10
            case hhrc10 => (intro wz9 hSw; (try dsimp only at hSw); go_simp; try with_reducible rfl)
            go_simp
            refine wpAnyH_done (by kernel_rfl) ?_ _
            go_wp2
            have hD9 := Lib.hid hHeld.1
            have hk9 := hkR2.trans hHeld.2.any
            clear hHeld hDa
            go_roundw
            case rel => exact ⟨i + 1, Z, by first | rfl | go_num, by omega, by omega, HZ, hD9, hk9⟩
            case measure => simp [intOf]; omega
          · have hideI : ((up.id : Int) != (uq.id : Int)) = true := by simp; omega
            have hideN : ¬ (up.id : Int) = (uq.id : Int) := by omega
            go_wp2
            refine wp_region_held_drew (S := (fun wx => Dat 58 wx g2 X Z ∧ Kept No w3 wx)) (by kernel_rfl) ?_ (fun hHeld => ?_)
            · exact ⟨hDa.kept (S := No) ((Kept.refl No w3).drew) (fun f => f), (Kept.refl No w3).drew⟩
            refine wpAnyH_take (i := 0) (v := (.slice (some ⟨g2, 0, none⟩) nz cz)) rfl (by kernel_rfl) (by kernel_rfl) (by kernel_rfl) (fun _ _ _ h => h) (Or.inl ⟨by rfl, ?hhrb0⟩) (by assumption) ?rrrb0
            case hhrb0 => (intro wz9 hSw; (try dsimp only at hSw); go_simp; try with_reducible rfl)
            go_simp
            refine wpAnyH_take (i := 1) (v := (.int .i64 (p : Int))) rfl (by kernel_rfl) (by kernel_rfl) (by kernel_rfl) (fun _ _ _ h => h) (Or.inl ⟨by rfl, ?hhrb1⟩) (by assumption) ?rrrb1
            case hhrb1 => (intro wz9 hSw; (try dsimp only at hSw); go_simp; try with_reducible rfl)
            go_simp
            refine wpAnyH_take (i := 2) (v := (.pointer (some ⟨g2, p * 4, none⟩))) rfl (by kernel_rfl) (by kernel_rfl) (by kernel_rfl) (fun _ _ _ h => h) (Or.inl ⟨by rfl, ?hhrb2⟩) (by assumption) ?rrrb2
            case hhrb2 => (intro wz9 hSw; (try dsimp only at hSw); go_simp; try with_reducible rfl)
            go_simp
            refine wpAnyH_take (i := 3) (v := (.pointer (some ⟨g2, p * 4, none⟩))) rfl (by kernel_rfl) (by kernel_rfl) (by kernel_rfl) (fun _ _ _ h => h) (Or.inl ⟨by rfl, ?hhrb3⟩) (by assumption) ?rrrb3
            case hhrb3 => (intro wz9 hSw; (try dsimp only at hSw); go_simp; try with_reducible rfl)
            go_simp
            refine wpAnyH_take (i := 4) (v := (.int .u8 (up.id : Int))) rfl (by kernel_rfl) (by kernel_rfl) (by kernel_rfl) (fun _ _ _ h => h) (Or.inl ⟨by rfl, ?hhrb4⟩) (by assumption) ?rrrb4
            case hhrb4 => (intro wz9 hSw; have hc := (HLP.out wz9 hSw.1).2; clear hSw; go_simp; try with_reducible rfl)
            go_simp
            refine wpAnyH_take (i := 5) (v := (.slice (some ⟨g2, 0, none⟩) nz cz)) rfl (by kernel_rfl) (by kernel_rfl) (by kernel_rfl) (fun _ _ _ h => h) (Or.inl ⟨by rfl, ?hhrb5⟩) (by assumption) ?rrrb5
            case hhrb5 => (intro wz9 hSw; (try dsimp only at hSw); go_simp; try with_reducible rfl)
            go_simp
            refine wpAnyH_take (i := 6) (v := (.int .i64 (q : Int))) rfl (by kernel_rfl) (by kernel_rfl) (by kernel_rfl) (fun _ _ _ h => h) (Or.inl ⟨by rfl, ?hhrb6⟩) (by assumption) ?rrrb6
            case hhrb6 => (intro wz9 hSw; (try dsimp only at hSw); go_simp; try with_reducible rfl)
            go_simp
            refine wpAnyH_take (i := 7) (v := (.pointer (some ⟨g2, q * 4, none⟩))) rfl (by kernel_rfl) (by kernel_rfl) (by kernel_rfl) (fun _ _ _ h => h) (Or.inl ⟨by rfl, ?hhrb7⟩) (by assumption) ?rrrb7
            case hhrb7 => (intro wz9 hSw; (try dsimp only at hSw); go_simp; try with_reducible rfl)
            go_simp
            refine wpAnyH_take (i := 8) (v := (.pointer (some ⟨g2, q * 4, none⟩))) rfl (by kernel_rfl) (by kernel_rfl) (by kernel_rfl) (fun _ _ _ h => h) (Or.inl ⟨by rfl, ?hhrb8⟩) (by assumption) ?rrrb8
            case hhrb8 => (intro wz9 hSw; (try dsimp only at hSw); go_simp; try with_reducible rfl)
            go_simp
            refine wpAnyH_take (i := 9) (v := (.int .u8 (uq.id : Int))) rfl (by kernel_rfl) (by kernel_rfl) (by kernel_rfl) (fun _ _ _ h => h) (Or.inl ⟨by rfl, ?hhrb9⟩) (by assumption) ?rrrb9
            case hhrb9 => (intro wz9 hSw; have hc := (HLQ.out wz9 hSw.1).2; clear hSw; go_simp; try with_reducible rfl)
            go_simp
            refine wpAnyH_take (i := 10) (v := (.bool true)) rfl (by kernel_rfl) (by kernel_rfl) (by kernel_rfl) (fun _ _ _ h => h) (Or.inl ⟨by rfl, ?hhrb10⟩) (by assumption) ?rrrb10
            case hhrb10 => (intro wz9 hSw; (try dsimp only at hSw); go_simp; try with_reducible rfl)
            go_simp
            refine wpAnyH_done (by kernel_rfl) ?_ _
            go_wp2
            have hD4 := hHeld.1
            have hk4 := hkR2.trans hHeld.2.any
            clear hHeld hDa hkR2
            generalize w3.drew = w4 at *
            have hWD : Dat 58 w4.drew g2 X Z := hD4.kept (S := No) ((Kept.refl No w4).drew) (fun f => f)
            have hKD : Kept (One g2) wS w4.drew := hk4.drew
            clear hD4 hk4
            refine wp_region_any (by kernel_rfl) ?_
            try (change wpAny _ _ _ _ _ _ _ (World.drew _))
            generalize w4.drew = wD at *
            obtain ⟨w1, st1, k1, w2, st2, k2, Z', d2, hzp⟩ := HSW.out hide wD hWD
            have HLDP := Lib.hid (HLP.out wD hWD).1
            have HLDQ := Lib.hid (HLQ.out wD hWD).1
            have HST1 := Lib.hid st1
            have HST2 := Lib.hid st2
            have HD2 := Lib.hid d2
            have HZ2 := Lib.hid (hzp.trans HZ.out)
            clear st1 st2 hWD d2 hzp HSW HLP HLQ
            refine wpAny_take (i := 0) (v := (.slice (some ⟨g2, 0, none⟩) nz cz)) rfl (by kernel_rfl) (by kernel_rfl) (by kernel_rfl) (fun _ _ _ h => h) (Or.inl ⟨by rfl, ?hhrx0⟩) ?rrrx0
            case hhrx0 => (intro wz9; go_simp; try with_reducible rfl)
            go_simp
            refine wpAny_take (i := 1) (v := (.int .i64 (p : Int))) rfl (by kernel_rfl) (by kernel_rfl) (by kernel_rfl) (fun _ _ _ h => h) (Or.inl ⟨by rfl, ?hhrx1⟩) ?rrrx1
            case hhrx1 => (intro wz9; go_simp; try with_reducible rfl)
            go_simp
            refine wpAny_take (i := 2) (v := (.slice (some ⟨g2, 0, none⟩) nz cz)) rfl (by kernel_rfl) (by kernel_rfl) (by kernel_rfl) (fun _ _ _ h => h) (Or.inl ⟨by rfl, ?hhrx2⟩) ?rrrx2
            case hhrx2 => (intro wz9; go_simp; try with_reducible rfl)
            go_simp
            refine wpAny_take (i := 3) (v := (.int .i64 (q : Int))) rfl (by kernel_rfl) (by kernel_rfl) (by kernel_rfl) (fun _ _ _ h => h) (Or.inl ⟨by rfl, ?hhrx3⟩) ?rrrx3
            case hhrx3 => (intro wz9; go_simp; try with_reducible rfl)
            go_simp
            refine wpAny_take (i := 4) (v := (.slice (some ⟨g2, 0, none⟩) nz cz)) rfl (by kernel_rfl) (by kernel_rfl) (by kernel_rfl) (fun _ _ _ h => h) (Or.inl ⟨by rfl, ?hhrx4⟩) ?rrrx4
            case hhrx4 => (intro wz9; go_simp; try with_reducible rfl)
            go_simp
            refine wpAny_take (i := 5) (v := (.int .i64 (q : Int))) rfl (by kernel_rfl) (by kernel_rfl) (by kernel_rfl) (fun _ _ _ h => h) (Or.inl ⟨by rfl, ?hhrx5⟩) ?rrrx5
            case hhrx5 => (intro wz9; go_simp; try with_reducible rfl)
            go_simp
            refine wpAny_take (i := 6) (v := (.pointer (some ⟨g2, q * 4, none⟩))) rfl (by kernel_rfl) (by kernel_rfl) (by kernel_rfl) (fun _ _ _ h => h) (Or.inl ⟨by rfl, ?hhrx6⟩) ?rrrx6
            case hhrx6 => (intro wz9; go_simp; try with_reducible rfl)
            go_simp
            refine wpAny_take (i := 8) (v := (.slice (some ⟨g2, 0, none⟩) nz cz)) rfl (by kernel_rfl) (by kernel_rfl) (by kernel_rfl) (fun _ _ _ h => h) (Or.inl ⟨by rfl, ?hhrx8⟩) ?rrrx8
            case hhrx8 => (intro wz9; go_simp; try with_reducible rfl)
            go_simp
            refine wpAny_take (i := 9) (v := (.int .i64 (p : Int))) rfl (by kernel_rfl) (by kernel_rfl) (by kernel_rfl) (fun _ _ _ h => h) (Or.inl ⟨by rfl, ?hhrx9⟩) ?rrrx9
            case hhrx9 => (intro wz9; go_simp; try with_reducible rfl)
            go_simp
            refine wpAny_take (i := 10) (v := (.pointer (some ⟨g2, p * 4, none⟩))) rfl (by kernel_rfl) (by kernel_rfl) (by kernel_rfl) (fun _ _ _ h => h) (Or.inl ⟨by rfl, ?hhrx10⟩) ?rrrx10
            case hhrx10 => (intro wz9; go_simp; try with_reducible rfl)
            go_simp
            refine wpAny_ready (rs := [7, 11]) (by kernel_rfl) (by simp) ?_
            refine AllReady.cons rfl (fun K9 hK9 => ?_) (AllReady.cons rfl (fun K9 hK9 => ?_) AllReady.nil)
            · refine (if_pos (show Region.wanted _ _ = true from rfl)).mpr ?_
              refine op_loadN 58 (.tmp 99) rfl rfl HLDQ.out ?_
              refine hK9 _ _ ?_
              clear hK9 K9
              go_simp
              refine wpAny_ready (rs := [11]) (by kernel_rfl) (by simp) ?_
              refine AllReady.cons rfl (fun K9 hK9 => ?_) AllReady.nil
              refine (if_pos (show Region.wanted _ _ = true from rfl)).mpr ?_
              refine op_loadN 58 (.tmp 103) rfl rfl HLDP.out ?_
              refine hK9 _ _ ?_
              clear hK9 K9
              go_simp
              refine wpAny_take (i := 12) (v := (.pointer (some ⟨g2, p * 4, none⟩))) rfl (by kernel_rfl) (by kernel_rfl) (by kernel_rfl) (fun _ _ _ h => h) (Or.inl ⟨by rfl, ?hhrxp12⟩) ?rrrxp12
              case hhrxp12 => (intro wz9; go_simp; try with_reducible rfl)
              go_simp
              refine wpAny_ready (rs := [13]) (by kernel_rfl) (by simp) ?_
              refine AllReady.cons rfl (fun K9 hK9 => ?_) AllReady.nil
              refine (if_pos (show Region.wanted _ _ = true from rfl)).mpr ?_
              refine op_storeS 58 (.tmp 105) (.tmp 100) rfl rfl rfl HST1.out ?_
              refine hK9 _ _ ?_
              clear hK9 K9
              go_simp
              refine wpAny_take (i := 14) (v := (.pointer (some ⟨g2, q * 4, none⟩))) rfl (by kernel_rfl) (by kernel_rfl) (by kernel_rfl) (fun _ _ _ h => h) (Or.inl ⟨by rfl, ?hhrxp14⟩) ?rrrxp14
              case hhrxp14 => (intro wz9; go_simp; try with_reducible rfl)
              go_simp
              refine wpAny_ready (rs := [15]) (by kernel_rfl) (by simp) ?_
              refine AllReady.cons rfl (fun K9 hK9 => ?_) AllReady.nil
              refine (if_pos (show Region.wanted _ _ = true from rfl)).mpr ?_
              refine op_storeS 58 (.tmp 106) (.tmp 104) rfl rfl rfl HST2.out ?_
              refine hK9 _ _ ?_
              clear hK9 K9
              go_simp
              refine wpAny_done (by kernel_rfl) ?_ _
              go_wp2
              go_roundw
              case rel => exact ⟨i + 1, Z', by first | rfl | go_num, by omega, by omega, HZ2, HD2, (hKD.trans k1).trans k2⟩
              case measure => simp [intOf]; omega
            · refine (if_pos (show Region.wanted _ _ = true from rfl)).mpr ?_
              refine op_loadN 58 (.tmp 103) rfl rfl HLDP.out ?_
              refine hK9 _ _ ?_
              clear hK9 K9
              go_simp
              refine wpAny_ready (rs := [7]) (by kernel_rfl) (by simp) ?_
              refine AllReady.cons rfl (fun K9 hK9 => ?_) AllReady.nil
              refine (if_pos (show Region.wanted _ _ = true from rfl)).mpr ?_
              refine op_loadN 58 (.tmp 99) rfl rfl HLDQ.out ?_
              refine hK9 _ _ ?_
              clear hK9 K9
              go_simp
              refine wpAny_take (i := 12) (v := (.pointer (some ⟨g2, p * 4, none⟩))) rfl (by kernel_rfl) (by kernel_rfl) (by kernel_rfl) (fun _ _ _ h => h) (Or.inl ⟨by rfl, ?hhrxq12⟩) ?rrrxq12
              case hhrxq12 => (intro wz9; go_simp; try with_reducible rfl)
              go_simp
              refine wpAny_ready (rs := [13]) (by kernel_rfl) (by simp) ?_
              refine AllReady.cons rfl (fun K9 hK9 => ?_) AllReady.nil
              refine (if_pos (show Region.wanted _ _ = true from rfl)).mpr ?_
              refine op_storeS 58 (.tmp 105) (.tmp 100) rfl rfl rfl HST1.out ?_
              refine hK9 _ _ ?_
              clear hK9 K9
              go_simp
              refine wpAny_take (i := 14) (v := (.pointer (some ⟨g2, q * 4, none⟩))) rfl (by kernel_rfl) (by kernel_rfl) (by kernel_rfl) (fun _ _ _ h => h) (Or.inl ⟨by rfl, ?hhrxq14⟩) ?rrrxq14
              case hhrxq14 => (intro wz9; go_simp; try with_reducible rfl)
              go_simp
              refine wpAny_ready (rs := [15]) (by kernel_rfl) (by simp) ?_
              refine AllReady.cons rfl (fun K9 hK9 => ?_) AllReady.nil
              refine (if_pos (show Region.wanted _ _ = true from rfl)).mpr ?_
              refine op_storeS 58 (.tmp 106) (.tmp 104) rfl rfl rfl HST2.out ?_
              refine hK9 _ _ ?_
              clear hK9 K9
              go_simp
              refine wpAny_done (by kernel_rfl) ?_ _
              go_wp2
              go_roundw
              case rel => exact ⟨i + 1, Z', by first | rfl | go_num, by omega, by omega, HZ2, HD2, (hKD.trans k1).trans k2⟩
              case measure => simp [intOf]; omega
        · have h1z : (i : Int) < (lt : Int) := by omega
          have h2z : ¬ (i : Int) < 10 := by omega
          have h2d : decide ((i : Int) < 10) = false := decide_eq_false h2z
          have hrZ := HBK.out Z wr HZ.out HDZ.out
          have hTZ := hT.kept hkR
          have hkZ := hkR
          obtain ⟨RL, RL0, qPU, qTK, qTO, qFR, qSO, qSM⟩ := HTZ.out Z HZ.out
          obtain ⟨m9, hm9⟩ : ∃ m9, m9 = RL.length := ⟨_, rfl⟩
          rw [← hm9] at qPU RL0
          have HMM9 : Hid (RL.length = m9) := Lib.hid hm9.symm
          have QPU := Lib.hid qPU
          have QTK := Lib.hid qTK
          have QTO := Lib.hid qTO
          have QFR := Lib.hid qFR
          have QSO := Lib.hid qSO
          have QSM := Lib.hid qSM
          clear qPU qTK qTO qFR qSO qSM hm9
          go_wp2_with fail
          go_at_call 13
          refine (QTO.out _ _ _ hrZ).mono ?_
          rintro e x3 ⟨b3, d3, rfl, hq3, i3⟩
          go_wp2_with fail
          go_at_call 12
          refine (QPU.out _ _ _ hq3 (hTZ.kept i3)).mono ?_
          rintro e x4 ⟨b4, d4, rfl, hq4, hn4, i4⟩
          go_wp2_with fail
          go_at_call 16
          refine (read_at b4 d4 m9 RL HMM9 x4 hq4 (fun h => (hn4 h).2) (by have := HMM9.out; omega)).mono ?_
          rintro e x5 ⟨rd, rfl, hrd, hR, i5⟩
          have i35 := (i3.trans i4).trans i5
          have hrZ4 := (hrZ.keptNo i3).keptNo i4
          go_wp2_with fail
          go_at_call 18
          refine (QTK.out x5 rd hR (hTZ.kept i35)).mono ?_
          rintro e x6 ⟨b6, d6, rfl, hq6, i6, hR6⟩
          have hrZ6 := hrZ4.past hrd (hrZ4.keptNo i5) i6
          go_wp2_with fail
          go_at_call 20
          refine (QFR.out b6 d6 x6 hq6).mono ?_
          rintro e x7 ⟨b7, d7, rfl, hq7, i7⟩
          go_wp2_with fail
          go_at_call 21
          refine (QSO.out _ _ x7 (hrZ6.keptNo i7) (fun h => by cases h)).mono ?_
          rintro e x8 ⟨b8, d8, rfl, hq8, i8⟩
          go_wp2_with fail
          go_at_call 19
          refine (QSM.out b7 d7 b8 d8 x8 (hq7.keptNo i8) hq8).mono ?_
          rintro e x9 ⟨rfl, i9⟩
          go_wp2
          go_ret
          have hz : w.heap.size ≤ rd := by have := ((hkZ.trans i3).trans i4).size; omega
          exact ⟨rfl, ((((hkZ.trans i35).any.trans i6).trans ((i7.trans i8).trans i9).any)).below (Nat.le_refl _) (fun k hk e => by have : k = rd := e; omega)⟩
      · have h1z : ¬ (i : Int) < (lt : Int) := by omega
        have h1d : decide ((i : Int) < (lt : Int)) = false := decide_eq_false h1z
        have hrZ := HBK.out Z wr HZ.out HDZ.out
        have hTZ := hT.kept hkR
        have hkZ := hkR
        obtain ⟨RL, RL0, qPU, qTK, qTO, qFR, qSO, qSM⟩ := HTZ.out Z HZ.out
        obtain ⟨m9, hm9⟩ : ∃ m9, m9 = RL.length := ⟨_, rfl⟩
        rw [← hm9] at qPU RL0
        have HMM9 : Hid (RL.length = m9) := Lib.hid hm9.symm
        have QPU := Lib.hid qPU
        have QTK := Lib.hid qTK
        have QTO := Lib.hid qTO
        have QFR := Lib.hid qFR
        have QSO := Lib.hid qSO
        have QSM := Lib.hid qSM
        clear qPU qTK qTO qFR qSO qSM hm9
        go_wp2_with fail
        go_at_call 13
        refine (QTO.out _ _ _ hrZ).mono ?_
        rintro e x3 ⟨b3, d3, rfl, hq3, i3⟩
        go_wp2_with fail
        go_at_call 12
        refine (QPU.out _ _ _ hq3 (hTZ.kept i3)).mono ?_
        rintro e x4 ⟨b4, d4, rfl, hq4, hn4, i4⟩
        go_wp2_with fail
        go_at_call 16
        refine (read_at b4 d4 m9 RL HMM9 x4 hq4 (fun h => (hn4 h).2) (by have := HMM9.out; omega)).mono ?_
        rintro e x5 ⟨rd, rfl, hrd, hR, i5⟩
        have i35 := (i3.trans i4).trans i5
        have hrZ4 := (hrZ.keptNo i3).keptNo i4
        go_wp2_with fail
        go_at_call 18
        refine (QTK.out x5 rd hR (hTZ.kept i35)).mono ?_
        rintro e x6 ⟨b6, d6, rfl, hq6, i6, hR6⟩
        have hrZ6 := hrZ4.past hrd (hrZ4.keptNo i5) i6
        go_wp2_with fail
        go_at_call 20
        refine (QFR.out b6 d6 x6 hq6).mono ?_
        rintro e x7 ⟨b7, d7, rfl, hq7, i7⟩
        go_wp2_with fail
        go_at_call 21
        refine (QSO.out _ _ x7 (hrZ6.keptNo i7) (fun h => by cases h)).mono ?_
        rintro e x8 ⟨b8, d8, rfl, hq8, i8⟩
        go_wp2_with fail
        go_at_call 19
        refine (QSM.out b7 d7 b8 d8 x8 (hq7.keptNo i8) hq8).mono ?_
        rintro e x9 ⟨rfl, i9⟩
        go_wp2
        go_ret
        have hz : w.heap.size ≤ rd := by have := ((hkZ.trans i3).trans i4).size; omega
        exact ⟨rfl, ((((hkZ.trans i35).any.trans i6).trans ((i7.trans i8).trans i9).any)).below (Nat.le_refl _) (fun k hk e => by have : k = rd := e; omega)⟩
  case pos =>
    have hME : M = [] := List.length_eq_zero_iff.1 (by rw [← HMZ.out, hM0])
    have HZ : Hid (M.Perm M) := Lib.hid (List.Perm.refl _)
    have HRZ : Hid (∀ a wx, Row wx a (PC M)) := Lib.hid (fun a wx => by rw [hME]; exact .nil _ _)
    cases a4 with
    | none =>
      obtain ⟨_, rfl⟩ := hn4 rfl
      subst hM0
      clear hrx hn4 hME
      go_wp2_with (at_builtin; refine wpList_append_own_none rfl _ _ _ rfl wQ.heap.size 58 i0 4 Tryd.underlying22 hi _ _ _ rfl (own_emptyK wQ _ _ 4 (Nat.le_refl _)) rfl ?_)
      have hkS : Kept No w (wQ.alloc (.cells #[] 58)) := hkW.alloc _
      go_wp2
      go_loopw [13] (fun x wr => x = .int .i64 0 ∧ Kept No w wr) (fun _ _ => 0)
      case atStart => exact ⟨rfl, hkS⟩
      case round =>
        obtain ⟨rfl, hkZ⟩ := hrel
        have hrZ := fun a => HRZ.out a wr
        have hTZ := hT.kept hkZ
        by_cases h1 : 0 < lt
        · have h1z : (0 : Int) < (lt : Int) := by omega
          obtain ⟨RL, RL0, qPU, qTK, qTO, qFR, qSO, qSM⟩ := HTZ.out M HZ.out
          obtain ⟨m9, hm9⟩ : ∃ m9, m9 = RL.length := ⟨_, rfl⟩
          rw [← hm9] at qPU RL0
          have HMM9 : Hid (RL.length = m9) := Lib.hid hm9.symm
          have QPU := Lib.hid qPU
          have QTK := Lib.hid qTK
          have QTO := Lib.hid qTO
          have QFR := Lib.hid qFR
          have QSO := Lib.hid qSO
          have QSM := Lib.hid qSM
          clear qPU qTK qTO qFR qSO qSM hm9
          go_wp2_with fail
          go_at_call 13
          refine (QTO.out _ _ _ (hrZ _)).mono ?_
          rintro e x3 ⟨b3, d3, rfl, hq3, i3⟩
          go_wp2_with fail
          go_at_call 12
          refine (QPU.out _ _ _ hq3 (hTZ.kept i3)).mono ?_
          rintro e x4 ⟨b4, d4, rfl, hq4, hn4, i4⟩
          go_wp2_with fail
          go_at_call 16
          refine (read_at b4 d4 m9 RL HMM9 x4 hq4 (fun h => (hn4 h).2) (by have := HMM9.out; omega)).mono ?_
          rintro e x5 ⟨rd, rfl, hrd, hR, i5⟩
          have i35 := (i3.trans i4).trans i5
          go_wp2_with fail
          go_at_call 18
          refine (QTK.out x5 rd hR (hTZ.kept i35)).mono ?_
          rintro e x6 ⟨b6, d6, rfl, hq6, i6, hR6⟩
          go_wp2_with fail
          go_at_call 20
          refine (QFR.out b6 d6 x6 hq6).mono ?_
          rintro e x7 ⟨b7, d7, rfl, hq7, i7⟩
          go_wp2_with fail
          go_at_call 21
          refine (QSO.out _ _ x7 (HRZ.out _ _) (fun h => by first | exact hnZ0 h | cases h)).mono ?_
          rintro e x8 ⟨b8, d8, rfl, hq8, i8⟩
          go_wp2_with fail
          go_at_call 19
          refine (QSM.out b7 d7 b8 d8 x8 (hq7.keptNo i8) hq8).mono ?_
          rintro e x9 ⟨rfl, i9⟩
          go_wp2
          go_ret
          have hz : w.heap.size ≤ rd := by have := ((hkZ.trans i3).trans i4).size; omega
          exact ⟨rfl, ((((hkZ.trans i35).any.trans i6).trans ((i7.trans i8).trans i9).any)).below (Nat.le_refl _) (fun k hk e => by have : k = rd := e; omega)⟩
        · have h1z : ¬ (0 : Int) < (lt : Int) := by omega
          have h1d : decide ((0 : Int) < (lt : Int)) = false := decide_eq_false h1z
          obtain ⟨RL, RL0, qPU, qTK, qTO, qFR, qSO, qSM⟩ := HTZ.out M HZ.out
          obtain ⟨m9, hm9⟩ : ∃ m9, m9 = RL.length := ⟨_, rfl⟩
          rw [← hm9] at qPU RL0
          have HMM9 : Hid (RL.length = m9) := Lib.hid hm9.symm
          have QPU := Lib.hid qPU
          have QTK := Lib.hid qTK
          have QTO := Lib.hid qTO
          have QFR := Lib.hid qFR
          have QSO := Lib.hid qSO
          have QSM := Lib.hid qSM
          clear qPU qTK qTO qFR qSO qSM hm9
          go_wp2_with fail
          go_at_call 13
          refine (QTO.out _ _ _ (hrZ _)).mono ?_
          rintro e x3 ⟨b3, d3, rfl, hq3, i3⟩
          go_wp2_with fail
          go_at_call 12
          refine (QPU.out _ _ _ hq3 (hTZ.kept i3)).mono ?_
          rintro e x4 ⟨b4, d4, rfl, hq4, hn4, i4⟩
          go_wp2_with fail
          go_at_call 16
          refine (read_at b4 d4 m9 RL HMM9 x4 hq4 (fun h => (hn4 h).2) (by have := HMM9.out; omega)).mono ?_
          rintro e x5 ⟨rd, rfl, hrd, hR, i5⟩
          have i35 := (i3.trans i4).trans i5
          go_wp2_with fail
          go_at_call 18
          refine (QTK.out x5 rd hR (hTZ.kept i35)).mono ?_
          rintro e x6 ⟨b6, d6, rfl, hq6, i6, hR6⟩
          go_wp2_with fail
          go_at_call 20
          refine (QFR.out b6 d6 x6 hq6).mono ?_
          rintro e x7 ⟨b7, d7, rfl, hq7, i7⟩
          go_wp2_with fail
          go_at_call 21
          refine (QSO.out _ _ x7 (HRZ.out _ _) (fun h => by first | exact hnZ0 h | cases h)).mono ?_
          rintro e x8 ⟨b8, d8, rfl, hq8, i8⟩
          go_wp2_with fail
          go_at_call 19
          refine (QSM.out b7 d7 b8 d8 x8 (hq7.keptNo i8) hq8).mono ?_
          rintro e x9 ⟨rfl, i9⟩
          go_wp2
          go_ret
          have hz : w.heap.size ≤ rd := by have := ((hkZ.trans i3).trans i4).size; omega
          exact ⟨rfl, ((((hkZ.trans i35).any.trans i6).trans ((i7.trans i8).trans i9).any)).below (Nat.le_refl _) (fun k hk e => by have : k = rd := e; omega)⟩
    | some ad =>
      have HC0 := Lib.hid ((hrx.keptNo ((Kept.refl No wQ).alloc (.cells #[] 58))).at_add ad rfl)
      have HL0 : Hid ((PC M).length = nz * 4) := Lib.hid (by rw [PC_length, HMZ.out])
      have hNZ9 : nz ≤ 0 := by omega
      clear hrx hn4 hME hM0
      go_wp2_with (at_builtin; refine wpList_append_own _ rfl _ _ _ rfl wQ.heap.size 58 i0 _ 4 40 Tryd.underlying22 hi hz0 hz1 hz2 rfl (by decide) _ _ _ rfl (own_emptyK wQ _ _ 4 (Nat.le_refl _)) ad nz c4 (PC M) rfl HL0.out HC0.out (PC_cell1 _) ?c1 ?c2 ?c3 ?_; rotate_right; intro v1 w1 hown1 hg1 hv1)
      case c1 => unfold maxLen; omega
      case c2 => omega
      case c3 => simp
      have hk1 : Kept No wQ w1 := ((Kept.refl No wQ).alloc _).grown hg1 (own_no (own_emptyK wQ _ 58 4 (Nat.le_refl _)))
      rw [List.nil_append, Nat.zero_add] at hown1
      obtain ⟨az, cz, rfl, _, _⟩ := own_form hown1
      have hnZ0 := (own_row hown1).2
      have hkS := hkW.trans hk1
      clear hown1 hv1 hg1 hk1 HC0 HL0
      have h3z : ¬ (0 : Int) < (nz : Int) := by omega
      have h3d : decide ((nz : Int) > 0) = false := decide_eq_false (by omega)
      go_wp2
      go_loopw [13] (fun x wr => x = .int .i64 0 ∧ Kept No w wr) (fun _ _ => 0)
      case atStart => exact ⟨rfl, hkS⟩
      case round =>
        obtain ⟨rfl, hkZ⟩ := hrel
        have hrZ := fun a => HRZ.out a wr
        have hTZ := hT.kept hkZ
        by_cases h1 : 0 < lt
        · have h1z : (0 : Int) < (lt : Int) := by omega
          obtain ⟨RL, RL0, qPU, qTK, qTO, qFR, qSO, qSM⟩ := HTZ.out M HZ.out
          obtain ⟨m9, hm9⟩ : ∃ m9, m9 = RL.length := ⟨_, rfl⟩
          rw [← hm9] at qPU RL0
          have HMM9 : Hid (RL.length = m9) := Lib.hid hm9.symm
          have QPU := Lib.hid qPU
          have QTK := Lib.hid qTK
          have QTO := Lib.hid qTO
          have QFR := Lib.hid qFR
          have QSO := Lib.hid qSO
          have QSM := Lib.hid qSM
          clear qPU qTK qTO qFR qSO qSM hm9
          go_wp2_with fail
          go_at_call 13
          refine (QTO.out _ _ _ (hrZ _)).mono ?_
          rintro e x3 ⟨b3, d3, rfl, hq3, i3⟩
          go_wp2_with fail
          go_at_call 12
          refine (QPU.out _ _ _ hq3 (hTZ.kept i3)).mono ?_
          rintro e x4 ⟨b4, d4, rfl, hq4, hn4, i4⟩
          go_wp2_with fail
          go_at_call 16
          refine (read_at b4 d4 m9 RL HMM9 x4 hq4 (fun h => (hn4 h).2) (by have := HMM9.out; omega)).mono ?_
          rintro e x5 ⟨rd, rfl, hrd, hR, i5⟩
          have i35 := (i3.trans i4).trans i5
          go_wp2_with fail
          go_at_call 18
          refine (QTK.out x5 rd hR (hTZ.kept i35)).mono ?_
          rintro e x6 ⟨b6, d6, rfl, hq6, i6, hR6⟩
          go_wp2_with fail
          go_at_call 20
          refine (QFR.out b6 d6 x6 hq6).mono ?_
          rintro e x7 ⟨b7, d7, rfl, hq7, i7⟩
          go_wp2_with fail
          go_at_call 21
          refine (QSO.out _ _ x7 (HRZ.out _ _) (fun h => by first | exact hnZ0 h | cases h)).mono ?_
          rintro e x8 ⟨b8, d8, rfl, hq8, i8⟩
          go_wp2_with fail
          go_at_call 19
          refine (QSM.out b7 d7 b8 d8 x8 (hq7.keptNo i8) hq8).mono ?_
          rintro e x9 ⟨rfl, i9⟩
          go_wp2
          go_ret
          have hz : w.heap.size ≤ rd := by have := ((hkZ.trans i3).trans i4).size; omega
          exact ⟨rfl, ((((hkZ.trans i35).any.trans i6).trans ((i7.trans i8).trans i9).any)).below (Nat.le_refl _) (fun k hk e => by have : k = rd := e; omega)⟩
        · have h1z : ¬ (0 : Int) < (lt : Int) := by omega
          have h1d : decide ((0 : Int) < (lt : Int)) = false := decide_eq_false h1z
          obtain ⟨RL, RL0, qPU, qTK, qTO, qFR, qSO, qSM⟩ := HTZ.out M HZ.out
          obtain ⟨m9, hm9⟩ : ∃ m9, m9 = RL.length := ⟨_, rfl⟩
          rw [← hm9] at qPU RL0
          have HMM9 : Hid (RL.length = m9) := Lib.hid hm9.symm
          have QPU := Lib.hid qPU
          have QTK := Lib.hid qTK
          have QTO := Lib.hid qTO
          have QFR := Lib.hid qFR
          have QSO := Lib.hid qSO
          have QSM := Lib.hid qSM
          clear qPU qTK qTO qFR qSO qSM hm9
          go_wp2_with fail
          go_at_call 13
          refine (QTO.out _ _ _ (hrZ _)).mono ?_
          rintro e x3 ⟨b3, d3, rfl, hq3, i3⟩
          go_wp2_with fail
          go_at_call 12
          refine (QPU.out _ _ _ hq3 (hTZ.kept i3)).mono ?_
          rintro e x4 ⟨b4, d4, rfl, hq4, hn4, i4⟩
          go_wp2_with fail
          go_at_call 16
          refine (read_at b4 d4 m9 RL HMM9 x4 hq4 (fun h => (hn4 h).2) (by have := HMM9.out; omega)).mono ?_
          rintro e x5 ⟨rd, rfl, hrd, hR, i5⟩
          have i35 := (i3.trans i4).trans i5
          go_wp2_with fail
          go_at_call 18
          refine (QTK.out x5 rd hR (hTZ.kept i35)).mono ?_
          rintro e x6 ⟨b6, d6, rfl, hq6, i6, hR6⟩
          go_wp2_with fail
          go_at_call 20
          refine (QFR.out b6 d6 x6 hq6).mono ?_
          rintro e x7 ⟨b7, d7, rfl, hq7, i7⟩
          go_wp2_with fail
          go_at_call 21
          refine (QSO.out _ _ x7 (HRZ.out _ _) (fun h => by first | exact hnZ0 h | cases h)).mono ?_
          rintro e x8 ⟨b8, d8, rfl, hq8, i8⟩
          go_wp2_with fail
          go_at_call 19
          refine (QSM.out b7 d7 b8 d8 x8 (hq7.keptNo i8) hq8).mono ?_
          rintro e x9 ⟨rfl, i9⟩
          go_wp2
          go_ret
          have hz : w.heap.size ≤ rd := by have := ((hkZ.trans i3).trans i4).size; omega
          exact ⟨rfl, ((((hkZ.trans i35).any.trans i6).trans ((i7.trans i8).trans i9).any)).below (Nat.le_refl _) (fun k hk e => by have : k = rd := e; omega)⟩

end Go.Proofs.YtfcgfkgibimffaaDoor
