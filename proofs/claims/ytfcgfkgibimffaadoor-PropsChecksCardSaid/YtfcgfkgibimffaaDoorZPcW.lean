/-
  PropsChecks' walk: made by mkpcw.py.
-/
import Derived.Test.YtfcgfkgibimffaaDoorYF8
import Derived.Test.YtfcgfkgibimffaaDoorYF9
namespace Go.Proofs.YtfcgfkgibimffaaDoor
open Go.RowKit
set_option linter.unusedVariables false
set_option linter.unusedSimpArgs false
set_option maxRecDepth 100000

theorem getV_eq (o : Option Pr) : getV o = .tuple #[.agg #[.int .u8 (o.getD Pr.zero).id, .int .u32 (o.getD Pr.zero).n, .string (o.getD Pr.zero).a, .string (o.getD Pr.zero).b], .bool o.isSome] := rfl
theorem box4 {w w' : World} {g : Nat} {t : TypeId} {u : Array Value} {x : Pr} (h : Blk w g t u) (hu : u.size = 4) (hk : Kept No (((((w.setCell ⟨g, 0, none⟩ (.int .u8 x.id)).setCell ⟨g, 1, none⟩ (.int .u32 x.n)).setCell ⟨g, 2, none⟩ (.string x.a)).setCell ⟨g, 3, none⟩ (.string x.b))) w') :
    Blk w' g t #[.int .u8 x.id, .int .u32 x.n, .string x.a, .string x.b] := by
  have h1 := (((h.set_ 0 (.int .u8 x.id)).set_ 1 (.int .u32 x.n)).set_ 2 (.string x.a)).set_ 3 (.string x.b)
  obtain ⟨l⟩ := u
  match l, hu with
  | [a, b, c, d], _ => exact (by simpa using h1 : Blk _ g t _).kept hk (fun f => f)
set_option maxHeartbeats 8000000 in
theorem propsChecks_walk (a0 : Int) (a1 : Option Addr) (len1 cap1 : Nat) (z1 : List Pr) (a2 : Int) (w : World) (w0 : (Lit.int .i64 a0).wf = true) (w1 : IsProps w a1 len1 cap1 z1) (w2 : (Lit.int .u8 a2).wf = true) (hT : Tabs w) :
    Calls Tryd.prog 6 #[.int .i64 a0, .slice a1 len1 cap1, .int .u8 a2] w fun e w' => e = .returned (.bool true) ∧ Below w.heap.size w w' := by
  have b2 := bounds_u8 w2
  obtain ⟨n2, rfl⟩ := Int.eq_ofNat_of_zero_le b2.1
  obtain ⟨rfl, hr, hle, hcap, hnil, hwf⟩ := w1
  have hn2 : n2 < 256 := by have := b2.2; omega
  unfold maxLen at hcap hwf
  have HF := Lib.hid (fewp_any a1 cap1 z1 w hr (by omega) (fun p hp => by have := hwf p hp; omega))
  have HW := Lib.hid (fun p hp => (⟨(hwf p hp).1, (hwf p hp).2.1⟩ : p.id < 256 ∧ p.n < 4294967296))
  have HN := Lib.hid hnil
  clear w0 w2 b2 hwf hle hcap hnil
  go_enter Tryd.func6, Tryd.ntmps6
  go_wp2_with fail
  go_at_call 10
  refine HF.out.mono ?_
  rintro e wf ⟨bf, rfl, hfew, hk1⟩
  have hTf := hT.kept hk1
  cases bf with
  | false =>
    go_wp2_with (go_at_call 11; refine (told6_any wf hTf).mono ?_; rintro e w4 ⟨rfl, hk4⟩)
    go_ret
    exact ⟨rfl, (hk1.trans hk4).below (Nat.le_refl _) (fun _ _ f => f)⟩
  | true =>
    have hfw := hfew rfl
    have HFW := Lib.hid hfw
    have hlen : z1.length ≤ 30 := hfw.1
    have HWF := Lib.hid (hfw.wf HW.out)
    clear hfew hfw
    have hrf := hr.keptNo hk1
    have HG1 := Lib.hid (fun (a : Option Addr) (c : Nat) (wx : World) hr => get_any a c z1 n2 wx hr (by omega))
    have HG2 := Lib.hid (fun (a : Option Addr) (c : Nat) (wx : World) hr => rget_any a c z1 n2 wx hr (by omega))
    rw [show GetIs (getL z1 n2) = fun w e w' => e = .returned (.tuple #[.agg #[.int .u8 ((getL z1 n2).getD Pr.zero).id, .int .u32 ((getL z1 n2).getD Pr.zero).n, .string ((getL z1 n2).getD Pr.zero).a, .string ((getL z1 n2).getD Pr.zero).b], .bool (getL z1 n2).isSome]) ∧ Kept No w w' from rfl] at HG1 HG2
    generalize (getL z1 n2).getD Pr.zero = gp at *
    generalize (getL z1 n2).isSome = gs at *
    go_wp2_with fail
    go_at_call 13
    refine (tolist_any a1 cap1 z1 wf hrf (by omega)).mono ?_
    rintro e wt ⟨a5, c5, rfl, hown5, hk2⟩
    obtain ⟨hr5, hn5⟩ := own_row hown5
    go_wp2_with fail
    go_at_call 27
    refine (HG1.out a5 c5 wt hr5).mono ?_
    rintro e wg ⟨rfl, hk3⟩
    have kbx := Blk.new wg 55 #[.int .u8 gp.id, .int .u32 gp.n, .string gp.a, .string gp.b]
    have hk12 := hk1.trans (hk2.trans hk3)
    go_wp2_with fail
    have hkA : Kept No wg (wg.alloc (.cells #[.int .u8 gp.id, .int .u32 gp.n, .string gp.a, .string gp.b] 55)) := (Kept.refl No wg).alloc _
    generalize wg.alloc (.cells #[.int .u8 gp.id, .int .u32 gp.n, .string gp.a, .string gp.b] 55) = wb at *
    have hrb := ((hrf.keptNo hk2).keptNo hk3).keptNo hkA
    go_at_call 28
    refine (HG2.out a1 cap1 wb hrb).mono ?_
    rintro e wh ⟨rfl, hk4⟩
    have kbx2 := kbx.kept hk4 (fun f => f)
    have kby := Blk.new wh 58 #[.int .u8 gp.id, .int .u32 gp.n, .string gp.a, .string gp.b]
    obtain ⟨g10, hg10⟩ : ∃ g10, g10 = wh.heap.size := ⟨_, rfl⟩
    go_wp2_with fail
    have hkB : Kept No wh (wh.alloc (.cells #[.int .u8 gp.id, .int .u32 gp.n, .string gp.a, .string gp.b] 58)) := (Kept.refl No wh).alloc _
    rw [← hg10] at kby ⊢
    generalize wh.alloc (.cells #[.int .u8 gp.id, .int .u32 gp.n, .string gp.a, .string gp.b] 58) = wc at *
    have kbx3 := kbx2.kept hkB (fun f => f)
    have hr5c := ((((hr5.keptNo hk3).keptNo hkA).keptNo hk4).keptNo hkB)
    have hk0c := (((hk12.trans hkA).trans hk4).trans hkB)
    go_at_call 29
    refine (sort_any z1 (by omega) a5 c5 wc hr5c hn5).mono ?_
    rintro e ws ⟨a6, c6, rfl, hown6, hk5⟩
    rw [sortL_length] at hown6 ⊢
    obtain ⟨hr6, hn6⟩ := own_row hown6
    have hk0s := hk0c.trans hk5
    have hTs := hT.kept hk0s
    have hr5s := hr5c.keptNo hk5
    have hrs := hr.keptNo hk0s
    have HX := Lib.hid (kbx3.kept hk5 (fun f => f))
    have HY := Lib.hid (kby.kept hk5 (fun f => f))
    clear kbx kbx2 kbx3 kby hg10 hkA hkB hk2 hk3 hk4 hk12 hk0c hr5c hrb HG1 HG2 hown5 hown6 hr5 hrf hTf
    have HLX : Hid (∀ wx, Kept No ws wx → (Instr.loadAt 55 (.pointer (some ⟨wg.heap.size, 0, none⟩))).run Tryd.prog wx = .ok gp.val wx) := Lib.hid (fun wx hk => by
      have hb := HX.out.kept hk (fun f => f)
      exact run_loadP gp wg.heap.size 0 wx (hb.cell 0) (hb.cell 1) (hb.cell 2) (hb.cell 3))
    have HLY : Hid (∀ wx, Kept No ws wx → (Instr.loadAt 58 (.pointer (some ⟨g10, 0, none⟩))).run Tryd.prog wx = .ok gp.val wx) := Lib.hid (fun wx hk => by
      have hb := HY.out.kept hk (fun f => f)
      exact run_loadR gp g10 0 wx (hb.cell 0) (hb.cell 1) (hb.cell 2) (hb.cell 3))
    clear HX HY
    have HTS := Lib.hid hTs
    have HR5 := Lib.hid hr5s
    have HR6 := Lib.hid hr6
    have HRS := Lib.hid hrs
    have HSL := Lib.hid (sortL_length z1)
    have hbk : ∀ b : Bool, (b == b) = true := beq_self_b
    obtain ⟨ck, hck⟩ : ∃ ck, ck = checkB a0 z1 := ⟨_, rfl⟩
    have HCK : Hid (∀ (a : Option Addr) (c : Nat) (wx : World), Row wx a (PC z1) → Tabs wx → Calls Tryd.prog 30 #[.int .i64 a0, .slice a z1.length c] wx fun e w' => e = .returned (.bool ck) ∧ Kept No wx w') := Lib.hid (fun a c wx h1 h2 => by rw [hck]; exact check_any a0 a c z1 wx h1 (by omega) HWF.out h2)
    have HCR : Hid (∀ (a : Option Addr) (c : Nat) (wx : World), Row wx a (PC z1) → Calls Tryd.prog 31 #[.int .i64 a0, .slice a z1.length c] wx fun e w' => e = .returned (.bool ck) ∧ Kept No wx w') := Lib.hid (fun a c wx h1 => by rw [hck]; exact rcheck_any a0 a c z1 wx h1 (by omega) HWF.out)
    obtain ⟨ds, hds⟩ : ∃ ds, ds = decide (z1 = sortL z1) := ⟨_, rfl⟩
    have HPS : Hid (∀ (a : Option Addr) (c : Nat) (a' : Option Addr) (c' : Nat) (wx : World), Row wx a (PC z1) → Row wx a' (PC (sortL z1)) → Calls Tryd.prog 33 #[.slice a z1.length c, .slice a' z1.length c'] wx fun e w' => e = .returned (.bool ds) ∧ Kept No wx w') := Lib.hid (fun a c a' c' wx h1 h2 => by have := psame_any a c z1 a' c' (sortL z1) wx h1 h2 (by omega) (by rw [sortL_length]; omega); rw [sortL_length, ← hds] at this; exact this)
    have HRS1 : Hid (∀ (a : Option Addr) (c : Nat) (a' : Option Addr) (c' : Nat) (wx : World), Row wx a (PC z1) → Row wx a' (PC (sortL z1)) → Calls Tryd.prog 19 #[.slice a z1.length c, .slice a' z1.length c'] wx fun e w' => e = .returned (.bool ds) ∧ Kept No wx w') := Lib.hid (fun a c a' c' wx h1 h2 => by have := rsame_any a c z1 a' c' (sortL z1) wx h1 h2 (by omega) (by rw [sortL_length]; omega); rw [sortL_length, ← hds] at this; exact this)
    have HRS2 : Hid (∀ (a : Option Addr) (c : Nat) (a' : Option Addr) (c' : Nat) (wx : World), Row wx a (PC (sortL z1)) → Row wx a' (PC (sortL z1)) → Calls Tryd.prog 19 #[.slice a z1.length c, .slice a' z1.length c'] wx fun e w' => e = .returned (.bool true) ∧ Kept No wx w') := Lib.hid (fun a c a' c' wx h1 h2 => by have := rsame_any a c (sortL z1) a' c' (sortL z1) wx h1 h2 (by rw [sortL_length]; omega) (by rw [sortL_length]; omega); rw [sortL_length, decide_eq_true rfl] at this; exact this)
    have HRS3 : Hid (∀ (a : Option Addr) (c : Nat) (a' : Option Addr) (c' : Nat) (wx : World), Row wx a (PC z1) → Row wx a' (PC z1) → Calls Tryd.prog 19 #[.slice a z1.length c, .slice a' z1.length c'] wx fun e w' => e = .returned (.bool true) ∧ Kept No wx w') := Lib.hid (fun a c a' c' wx h1 h2 => by have := rsame_any a c z1 a' c' z1 wx h1 h2 (by omega) (by omega); rw [decide_eq_true rfl] at this; exact this)
    have HFS : Hid (∀ (a : Option Addr) (c : Nat) (wx : World), Row wx a (PC (sortL z1)) → Calls Tryd.prog 20 #[.slice a z1.length c] wx fun e w' => ∃ a' c', e = .returned (.slice a' z1.length c') ∧ Row w' a' (PC (sortL z1)) ∧ Kept No wx w') := Lib.hid (fun a c wx h1 => by have := fromlist_any a c (sortL z1) wx h1 (by rw [sortL_length]; omega); rw [sortL_length] at this; exact this.mono fun e w' ⟨a', c', h1, h2, h3⟩ => ⟨a', c', by rw [h1, sortL_length], (own_row h2).1, h3⟩)
    have HFX : Hid (∀ (a : Option Addr) (c : Nat) (wx : World), Row wx a (PC z1) → Calls Tryd.prog 20 #[.slice a z1.length c] wx fun e w' => ∃ a' c', e = .returned (.slice a' z1.length c') ∧ Row w' a' (PC z1) ∧ Kept No wx w') := Lib.hid (fun a c wx h1 => (fromlist_any a c z1 wx h1 (by omega)).mono fun e w' ⟨a', c', h1, h2, h3⟩ => ⟨a', c', h1, (own_row h2).1, h3⟩)
    have HSO : Hid (∀ (wx : World), Row wx a1 (PC z1) → Calls Tryd.prog 21 #[.slice a1 z1.length cap1] wx fun e w' => ∃ a' c', e = .returned (.slice a' z1.length c') ∧ Row w' a' (PC (sortL z1)) ∧ Kept No wx w') := Lib.hid (fun wx h1 => (rsort_any a1 cap1 z1 wx h1 HN.out (by omega)).mono fun e w' ⟨a', c', h1, h2, h3⟩ => ⟨a', c', by rw [h1, sortL_length], (own_row h2).1, h3⟩)
    have HFP : Hid (∀ wx, Calls Tryd.prog 32 #[gp.val] wx fun e w' => e = .returned gp.val ∧ Kept No wx w') := Lib.hid (fun wx => from_any gp.id gp.n gp.a gp.b wx)
    have HEQ : Hid (∀ wx, Sem.run Tryd.prog (binOp .eql 58 gp.val gp.val) wx = .ok (.bool true) wx) := Lib.hid (fun wx => by have := eql_r gp.id gp.n gp.id gp.n gp.a gp.b gp.a gp.b wx; rw [decide_eq_true rfl] at this; exact this)
    clear hck hds hTs hr5s hr6 hrs hn5 hn6 hr hT
    have hlI : (z1.length : Int) ≤ 30 := by omega
    obtain ⟨n1, hn1⟩ : ∃ n1, n1 = z1.length := ⟨_, rfl⟩
    rw [← hn1] at HCK HCR HPS HRS1 HRS2 HRS3 HFS HFX HSO ⊢
    have hk0 := hk0s
    clear hk0s hk1 hk5 hlen hn1 hlI
    go_wp2_with fail
    refine wp_region_held_drew (S := (fun wx => Kept No ws wx)) (by kernel_rfl) ?_ (fun hHeld => ?_)
    · exact (Kept.refl No ws).drew
    refine wpAnyH_ready (rs := [0]) (by kernel_rfl) (by simp) ?_
    refine AllReadyH.cons rfl (fun K9 hK9 => ?_) AllReadyH.nil
    go_simp
    go_wp2_with (go_at_call 11; refine (told6_any _ (HTS.out.kept hHeld)).mono ?_; rintro e v0 ⟨rfl, kk0⟩)
    refine hK9.out _ _ ?_ (fun hHeld => ?_)
    · exact hHeld.trans kk0
    clear hK9 K9
    refine wpAnyH_take (i := 1) (v := (.bool true)) rfl (by kernel_rfl) (by kernel_rfl) (by kernel_rfl) (fun _ _ _ h => h) (Or.inl ⟨by rfl, ?hhpc1⟩) (by assumption) ?rrpc1
    case hhpc1 => (intro wz9 hSw; (try dsimp only at hSw); go_simp; try with_reducible rfl)
    go_simp
    refine wpAnyH_take (i := 2) (v := ?vvpc2) rfl (by kernel_rfl) (by kernel_rfl) (by kernel_rfl) (fun _ _ _ h => h) (Or.inl ⟨by rfl, ?hhpc2⟩) (by assumption) ?rrpc2
    case hhpc2 => (intro wz9 hSw; (try dsimp only at hSw); go_simp; try with_reducible rfl)
    go_simp
    refine wpAnyH_take (i := 3) (v := (.slice a5 n1 c5)) rfl (by kernel_rfl) (by kernel_rfl) (by kernel_rfl) (fun _ _ _ h => h) (Or.inl ⟨by rfl, ?hhpc3⟩) (by assumption) ?rrpc3
    case hhpc3 => (intro wz9 hSw; (try dsimp only at hSw); go_simp; try with_reducible rfl)
    go_simp
    refine wpAnyH_take (i := 5) (v := ?vvpc5) rfl (by kernel_rfl) (by kernel_rfl) (by kernel_rfl) (fun _ _ _ h => h) (Or.inl ⟨by rfl, ?hhpc5⟩) (by assumption) ?rrpc5
    case hhpc5 => (intro wz9 hSw; (try dsimp only at hSw); go_simp; try with_reducible rfl)
    go_simp
    refine wpAnyH_take (i := 6) (v := (.slice a1 n1 cap1)) rfl (by kernel_rfl) (by kernel_rfl) (by kernel_rfl) (fun _ _ _ h => h) (Or.inl ⟨by rfl, ?hhpc6⟩) (by assumption) ?rrpc6
    case hhpc6 => (intro wz9 hSw; (try dsimp only at hSw); go_simp; try with_reducible rfl)
    go_simp
    refine wpAnyH_ready (rs := [4]) (by kernel_rfl) (by simp) ?_
    refine AllReadyH.cons rfl (fun K9 hK9 => ?_) AllReadyH.nil
    go_simp
    go_wp2_with (go_at_call 30; refine (HCK.out a5 c5 _ (HR5.out.keptNo hHeld) (HTS.out.kept hHeld)).mono ?_; rintro e v1 ⟨rfl, kk1⟩)
    refine hK9.out _ _ ?_ (fun hHeld => ?_)
    · exact hHeld.trans kk1
    clear hK9 K9
    refine wpAnyH_ready (rs := [7]) (by kernel_rfl) (by simp) ?_
    refine AllReadyH.cons rfl (fun K9 hK9 => ?_) AllReadyH.nil
    go_simp
    go_wp2_with (go_at_call 31; refine (HCR.out a1 cap1 _ (HRS.out.keptNo hHeld)).mono ?_; rintro e v2 ⟨rfl, kk2⟩)
    refine hK9.out _ _ ?_ (fun hHeld => ?_)
    · exact hHeld.trans kk2
    clear hK9 K9
    refine wpAnyH_take (i := 8) (v := (.bool true)) rfl (by kernel_rfl) (by kernel_rfl) (by kernel_rfl) (fun _ _ _ h => h) (Or.inl ⟨by rfl, ?hhpc8⟩) (by assumption) ?rrpc8
    case hhpc8 => (intro wz9 hSw; clear hSw; go_simp; first | done | rw [hbk] | simp [hbk])
    go_simp
    refine wpAnyH_take (i := 9) (v := (.bool true)) rfl (by kernel_rfl) (by kernel_rfl) (by kernel_rfl) (fun _ _ _ h => h) (Or.inl ⟨by rfl, ?hhpc9⟩) (by assumption) ?rrpc9
    case hhpc9 => (intro wz9 hSw; (try dsimp only at hSw); go_simp; try with_reducible rfl)
    go_simp
    refine wpAnyH_take (i := 10) (v := (.bool true)) rfl (by kernel_rfl) (by kernel_rfl) (by kernel_rfl) (fun _ _ _ h => h) (Or.inl ⟨by rfl, ?hhpc10⟩) (by assumption) ?rrpc10
    case hhpc10 => (intro wz9 hSw; (try dsimp only at hSw); go_simp; try with_reducible rfl)
    go_simp
    refine wpAnyH_take (i := 11) (v := (.bool gs)) rfl (by kernel_rfl) (by kernel_rfl) (by kernel_rfl) (fun _ _ _ h => h) (Or.inl ⟨by rfl, ?hhpc11⟩) (by assumption) ?rrpc11
    case hhpc11 => (intro wz9 hSw; (try dsimp only at hSw); go_simp; try with_reducible rfl)
    go_simp
    refine wpAnyH_take (i := 12) (v := (.bool gs)) rfl (by kernel_rfl) (by kernel_rfl) (by kernel_rfl) (fun _ _ _ h => h) (Or.inl ⟨by rfl, ?hhpc12⟩) (by assumption) ?rrpc12
    case hhpc12 => (intro wz9 hSw; (try dsimp only at hSw); go_simp; try with_reducible rfl)
    go_simp
    refine wpAnyH_take (i := 13) (v := (.bool true)) rfl (by kernel_rfl) (by kernel_rfl) (by kernel_rfl) (fun _ _ _ h => h) (Or.inl ⟨by rfl, ?hhpc13⟩) (by assumption) ?rrpc13
    case hhpc13 => (intro wz9 hSw; clear hSw; go_simp; first | done | rw [hbk] | simp [hbk])
    go_simp
    refine wpAnyH_take (i := 14) (v := (.bool true)) rfl (by kernel_rfl) (by kernel_rfl) (by kernel_rfl) (fun _ _ _ h => h) (Or.inl ⟨by rfl, ?hhpc14⟩) (by assumption) ?rrpc14
    case hhpc14 => (intro wz9 hSw; (try dsimp only at hSw); go_simp; try with_reducible rfl)
    go_simp
    refine wpAnyH_take (i := 15) (v := (.bool true)) rfl (by kernel_rfl) (by kernel_rfl) (by kernel_rfl) (fun _ _ _ h => h) (Or.inl ⟨by rfl, ?hhpc15⟩) (by assumption) ?rrpc15
    case hhpc15 => (intro wz9 hSw; (try dsimp only at hSw); go_simp; try with_reducible rfl)
    go_simp
    refine wpAnyH_take (i := 16) (v := gp.val) rfl (by kernel_rfl) (by kernel_rfl) (by kernel_rfl) (fun _ _ _ h => h) (Or.inl ⟨by rfl, ?hhpc16⟩) (by assumption) ?rrpc16
    case hhpc16 => (intro wz9 hSw; exact run_valueS (HLX.out wz9 hSw))
    go_simp
    refine wpAnyH_take (i := 18) (v := gp.val) rfl (by kernel_rfl) (by kernel_rfl) (by kernel_rfl) (fun _ _ _ h => h) (Or.inl ⟨by rfl, ?hhpc18⟩) (by assumption) ?rrpc18
    case hhpc18 => (intro wz9 hSw; exact run_valueS (HLY.out wz9 hSw))
    go_simp
    refine wpAnyH_ready (rs := [17]) (by kernel_rfl) (by simp) ?_
    refine AllReadyH.cons rfl (fun K9 hK9 => ?_) AllReadyH.nil
    go_simp
    go_wp2_with (go_at_call 32; refine (HFP.out _).mono ?_; rintro e v3 ⟨rfl, kk3⟩)
    refine hK9.out _ _ ?_ (fun hHeld => ?_)
    · exact hHeld.trans kk3
    clear hK9 K9
    refine wpAnyH_take (i := 19) (v := (.bool true)) rfl (by kernel_rfl) (by kernel_rfl) (by kernel_rfl) (fun _ _ _ h => h) (Or.inl ⟨by rfl, ?hhpc19⟩) (by assumption) ?rrpc19
    case hhpc19 => (intro wz9 hSw; exact run_valueS (run_eqP gp _ _ wz9))
    go_simp
    refine wpAnyH_take (i := 20) (v := (.bool true)) rfl (by kernel_rfl) (by kernel_rfl) (by kernel_rfl) (fun _ _ _ h => h) (Or.inl ⟨by rfl, ?hhpc20⟩) (by assumption) ?rrpc20
    case hhpc20 => (intro wz9 hSw; (try dsimp only at hSw); go_simp; try with_reducible rfl)
    go_simp
    refine wpAnyH_take (i := 21) (v := (.bool true)) rfl (by kernel_rfl) (by kernel_rfl) (by kernel_rfl) (fun _ _ _ h => h) (Or.inl ⟨by rfl, ?hhpc21⟩) (by assumption) ?rrpc21
    case hhpc21 => (intro wz9 hSw; (try dsimp only at hSw); go_simp; try with_reducible rfl)
    go_simp
    refine wpAnyH_take (i := 22) (v := (.slice a6 n1 c6)) rfl (by kernel_rfl) (by kernel_rfl) (by kernel_rfl) (fun _ _ _ h => h) (Or.inl ⟨by rfl, ?hhpc22⟩) (by assumption) ?rrpc22
    case hhpc22 => (intro wz9 hSw; (try dsimp only at hSw); go_simp; try with_reducible rfl)
    go_simp
    refine wpAnyH_take (i := 24) (v := (.slice a1 n1 cap1)) rfl (by kernel_rfl) (by kernel_rfl) (by kernel_rfl) (fun _ _ _ h => h) (Or.inl ⟨by rfl, ?hhpc24⟩) (by assumption) ?rrpc24
    case hhpc24 => (intro wz9 hSw; (try dsimp only at hSw); go_simp; try with_reducible rfl)
    go_simp
    refine wpAnyH_ready (rs := [23]) (by kernel_rfl) (by simp) ?_
    refine AllReadyH.cons rfl (fun K9 hK9 => ?_) AllReadyH.nil
    go_simp
    go_wp2_with (go_at_call 20; refine (HFS.out a6 c6 _ (HR6.out.keptNo hHeld)).mono ?_; rintro e v4 ⟨a7, c7, rfl, r7, kk4⟩)
    refine hK9.out _ _ ?_ (fun hHeld => ?_)
    · exact hHeld.trans kk4
    clear hK9 K9
    refine wpAnyH_ready (rs := [25]) (by kernel_rfl) (by simp) ?_
    refine AllReadyH.cons rfl (fun K9 hK9 => ?_) AllReadyH.nil
    go_simp
    go_wp2_with (go_at_call 21; refine (HSO.out _ (HRS.out.keptNo hHeld)).mono ?_; rintro e v5 ⟨a8, c8, rfl, r8, kk5⟩)
    refine hK9.out _ _ ?_ (fun hHeld => ?_)
    · exact hHeld.trans kk5
    clear hK9 K9
    refine wpAnyH_ready (rs := [26]) (by kernel_rfl) (by simp) ?_
    refine AllReadyH.cons rfl (fun K9 hK9 => ?_) AllReadyH.nil
    go_simp
    go_wp2_with (go_at_call 19; refine (HRS2.out a7 c7 a8 c8 _ (r7.keptNo kk5) r8).mono ?_; rintro e v6 ⟨rfl, kk6⟩)
    refine hK9.out _ _ ?_ (fun hHeld => ?_)
    · exact hHeld.trans kk6
    clear hK9 K9
    refine wpAnyH_take (i := 27) (v := (.bool true)) rfl (by kernel_rfl) (by kernel_rfl) (by kernel_rfl) (fun _ _ _ h => h) (Or.inl ⟨by rfl, ?hhpc27⟩) (by assumption) ?rrpc27
    case hhpc27 => (intro wz9 hSw; (try dsimp only at hSw); go_simp; try with_reducible rfl)
    go_simp
    refine wpAnyH_take (i := 28) (v := (.bool true)) rfl (by kernel_rfl) (by kernel_rfl) (by kernel_rfl) (fun _ _ _ h => h) (Or.inl ⟨by rfl, ?hhpc28⟩) (by assumption) ?rrpc28
    case hhpc28 => (intro wz9 hSw; (try dsimp only at hSw); go_simp; try with_reducible rfl)
    go_simp
    refine wpAnyH_take (i := 29) (v := (.slice a5 n1 c5)) rfl (by kernel_rfl) (by kernel_rfl) (by kernel_rfl) (fun _ _ _ h => h) (Or.inl ⟨by rfl, ?hhpc29⟩) (by assumption) ?rrpc29
    case hhpc29 => (intro wz9 hSw; (try dsimp only at hSw); go_simp; try with_reducible rfl)
    go_simp
    refine wpAnyH_take (i := 30) (v := (.slice a6 n1 c6)) rfl (by kernel_rfl) (by kernel_rfl) (by kernel_rfl) (fun _ _ _ h => h) (Or.inl ⟨by rfl, ?hhpc30⟩) (by assumption) ?rrpc30
    case hhpc30 => (intro wz9 hSw; (try dsimp only at hSw); go_simp; try with_reducible rfl)
    go_simp
    refine wpAnyH_take (i := 32) (v := (.slice a1 n1 cap1)) rfl (by kernel_rfl) (by kernel_rfl) (by kernel_rfl) (fun _ _ _ h => h) (Or.inl ⟨by rfl, ?hhpc32⟩) (by assumption) ?rrpc32
    case hhpc32 => (intro wz9 hSw; (try dsimp only at hSw); go_simp; try with_reducible rfl)
    go_simp
    refine wpAnyH_take (i := 33) (v := (.slice a1 n1 cap1)) rfl (by kernel_rfl) (by kernel_rfl) (by kernel_rfl) (fun _ _ _ h => h) (Or.inl ⟨by rfl, ?hhpc33⟩) (by assumption) ?rrpc33
    case hhpc33 => (intro wz9 hSw; (try dsimp only at hSw); go_simp; try with_reducible rfl)
    go_simp
    refine wpAnyH_ready (rs := [31]) (by kernel_rfl) (by simp) ?_
    refine AllReadyH.cons rfl (fun K9 hK9 => ?_) AllReadyH.nil
    go_simp
    go_wp2_with (go_at_call 33; refine (HPS.out a5 c5 a6 c6 _ (HR5.out.keptNo hHeld) (HR6.out.keptNo hHeld)).mono ?_; rintro e v7 ⟨rfl, kk7⟩)
    refine hK9.out _ _ ?_ (fun hHeld => ?_)
    · exact hHeld.trans kk7
    clear hK9 K9
    refine wpAnyH_ready (rs := [34]) (by kernel_rfl) (by simp) ?_
    refine AllReadyH.cons rfl (fun K9 hK9 => ?_) AllReadyH.nil
    go_simp
    go_wp2_with (go_at_call 21; refine (HSO.out _ (HRS.out.keptNo hHeld)).mono ?_; rintro e v8 ⟨a9, c9, rfl, r9, kk8⟩)
    refine hK9.out _ _ ?_ (fun hHeld => ?_)
    · exact hHeld.trans kk8
    clear hK9 K9
    refine wpAnyH_ready (rs := [35]) (by kernel_rfl) (by simp) ?_
    refine AllReadyH.cons rfl (fun K9 hK9 => ?_) AllReadyH.nil
    go_simp
    go_wp2_with (go_at_call 19; refine (HRS1.out a1 cap1 a9 c9 _ (HRS.out.keptNo hHeld) r9).mono ?_; rintro e v9 ⟨rfl, kk9⟩)
    refine hK9.out _ _ ?_ (fun hHeld => ?_)
    · exact hHeld.trans kk9
    clear hK9 K9
    refine wpAnyH_take (i := 36) (v := (.bool true)) rfl (by kernel_rfl) (by kernel_rfl) (by kernel_rfl) (fun _ _ _ h => h) (Or.inl ⟨by rfl, ?hhpc36⟩) (by assumption) ?rrpc36
    case hhpc36 => (intro wz9 hSw; clear hSw; go_simp; first | done | rw [hbk] | simp [hbk])
    go_simp
    refine wpAnyH_take (i := 37) (v := (.bool true)) rfl (by kernel_rfl) (by kernel_rfl) (by kernel_rfl) (fun _ _ _ h => h) (Or.inl ⟨by rfl, ?hhpc37⟩) (by assumption) ?rrpc37
    case hhpc37 => (intro wz9 hSw; (try dsimp only at hSw); go_simp; try with_reducible rfl)
    go_simp
    refine wpAnyH_take (i := 38) (v := (.bool true)) rfl (by kernel_rfl) (by kernel_rfl) (by kernel_rfl) (fun _ _ _ h => h) (Or.inl ⟨by rfl, ?hhpc38⟩) (by assumption) ?rrpc38
    case hhpc38 => (intro wz9 hSw; (try dsimp only at hSw); go_simp; try with_reducible rfl)
    go_simp
    refine wpAnyH_take (i := 39) (v := (.slice a5 n1 c5)) rfl (by kernel_rfl) (by kernel_rfl) (by kernel_rfl) (fun _ _ _ h => h) (Or.inl ⟨by rfl, ?hhpc39⟩) (by assumption) ?rrpc39
    case hhpc39 => (intro wz9 hSw; (try dsimp only at hSw); go_simp; try with_reducible rfl)
    go_simp
    refine wpAnyH_take (i := 41) (v := (.slice a1 n1 cap1)) rfl (by kernel_rfl) (by kernel_rfl) (by kernel_rfl) (fun _ _ _ h => h) (Or.inl ⟨by rfl, ?hhpc41⟩) (by assumption) ?rrpc41
    case hhpc41 => (intro wz9 hSw; (try dsimp only at hSw); go_simp; try with_reducible rfl)
    go_simp
    refine wpAnyH_ready (rs := [40]) (by kernel_rfl) (by simp) ?_
    refine AllReadyH.cons rfl (fun K9 hK9 => ?_) AllReadyH.nil
    go_simp
    go_wp2_with (go_at_call 20; refine (HFX.out a5 c5 _ (HR5.out.keptNo hHeld)).mono ?_; rintro e v10 ⟨a10, c10, rfl, r10, kk10⟩)
    refine hK9.out _ _ ?_ (fun hHeld => ?_)
    · exact hHeld.trans kk10
    clear hK9 K9
    refine wpAnyH_ready (rs := [42]) (by kernel_rfl) (by simp) ?_
    refine AllReadyH.cons rfl (fun K9 hK9 => ?_) AllReadyH.nil
    go_simp
    go_wp2_with (go_at_call 19; refine (HRS3.out a10 c10 a1 cap1 _ r10 (HRS.out.keptNo hHeld)).mono ?_; rintro e v11 ⟨rfl, kk11⟩)
    refine hK9.out _ _ ?_ (fun hHeld => ?_)
    · exact hHeld.trans kk11
    clear hK9 K9
    refine wpAnyH_take (i := 43) (v := (.bool true)) rfl (by kernel_rfl) (by kernel_rfl) (by kernel_rfl) (fun _ _ _ h => h) (Or.inl ⟨by rfl, ?hhpc43⟩) (by assumption) ?rrpc43
    case hhpc43 => (intro wz9 hSw; (try dsimp only at hSw); go_simp; try with_reducible rfl)
    go_simp
    refine wpAnyH_take (i := 44) (v := (.bool true)) rfl (by kernel_rfl) (by kernel_rfl) (by kernel_rfl) (fun _ _ _ h => h) (Or.inl ⟨by rfl, ?hhpc44⟩) (by assumption) ?rrpc44
    case hhpc44 => (intro wz9 hSw; (try dsimp only at hSw); go_simp; try with_reducible rfl)
    go_simp
    refine wpAnyH_done (by kernel_rfl) ?_ _
    go_wp2
    go_ret
    exact ⟨rfl, (hk0.trans hHeld).below (Nat.le_refl _) (fun _ _ f => f)⟩

end Go.Proofs.YtfcgfkgibimffaaDoor
