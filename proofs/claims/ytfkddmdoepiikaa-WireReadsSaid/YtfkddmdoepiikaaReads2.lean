/-
  The walk of WireReads, where more than 300 bytes came.
-/
import Derived.Test.YtfkddmdoepiikaaReadsBase
import Derived.Deep.DeepCutAuto
import Derived.Deep.CutBlock
namespace Go.Proofs.Ytfkddmdoepiikaa
open Go.RowKit
set_option linter.unusedVariables false
set_option linter.unusedSimpArgs false

set_option maxRecDepth 100000 in
set_option maxHeartbeats 40000000 in
theorem wireReads_walk (a0 : Option Addr) (len0 cap0 : Nat) (z0 : List Int) (a1 : Option Addr) (len1 cap1 : Nat) (z1 : List (Int × Int)) (w : World) (w0 : IsRow .u8 w a0 len0 cap0 z0) (w1 : IsPairs w a1 len1 cap1 z1) :
    Calls Try.prog 3 #[.slice a0 len0 cap0, .slice a1 len1 cap1] w fun e w' => e = .returned (.bool true) ∧ Below w.heap.size w w' := by
  obtain ⟨i0, hi, hz0, hz1, hz2⟩ := info_parts info_u8
  obtain ⟨hrow, hlen, hlc, hcm, hn, hwf⟩ := w0.row
  rw [ints_bytes hwf] at hrow
  have hlen' : ((z0.take len0).map byteOf).length = len0 := by simpa using hlen
  generalize (z0.take len0).map byteOf = l at *
  subst hlen'
  obtain ⟨hz1l, hlc1, hcm1, hcells⟩ := w1
  have HZ := Lib.hid hz1l
  have HC := Lib.hid hcells
  clear w0 hwf hlen hz1l hcells
  unfold maxLen at hcm hcm1
  have hrow2 := hrow.take 300
  rw [← B8_take] at hrow2
  have HN := Lib.hid hn
  clear hn
  have htl : (l.take 300).length ≤ 300 := by simp; omega
  have hmin : (300 < (l.length : Int) ∧ (l.take 300).length = 300) ∨ (¬ 300 < (l.length : Int) ∧ (l.take 300).length = l.length) := by
    by_cases h : 300 < (l.length : Int)
    · exact .inl ⟨h, by simp; omega⟩
    · exact .inr ⟨h, by simp; omega⟩
  have hlc2 : (l.take 300).length ≤ cap0 := by simp; omega
  generalize l.take 300 = t at *
  clear hrow
  go_enter Try.func3, Try.ntmps3
  go_upto_region 1 with fail
  go_cut [0] (fun s wx => s = .slice a0 t.length cap0 ∧ w = wx)
  case first =>
    rcases hmin with ⟨h3, h4⟩ | ⟨h3, h4⟩
    · have H4 := Lib.hid h4
      clear h4 htl hlc2
      go_wp2_with fail
      go_meet
      exact ⟨by rw [H4.out], rfl⟩
    · have H4 := Lib.hid h4
      clear h4 htl hlc2
      go_wp2_with fail
      go_meet
      exact ⟨by rw [H4.out], rfl⟩
  case rest =>
  obtain ⟨rfl, rfl⟩ := hcut
  clear hmin
  go_wp2_with (first
    | (at_builtin; refine wpList_append_row _ rfl _ _ _ rfl w.heap.size 5 i0 _ 1 Try.underlying22 hi hz0 hz1 hz2 rfl _ _ _ rfl (own_empty w _ _ (Nat.le_refl _)) a0 _ cap0 (B8 t) rfl (B8_length t) (hrow2.keptNo ((Kept.refl No w).alloc _)) HN.out (B8_one _) (by unfold maxLen; omega) (by omega) (by simp) ?_; intro v2 w2 hown2 hg2 hv2))
  have hk2 : Kept No w w2 := ((Kept.refl No w).alloc _).grown hg2 (own_no (own_empty w _ 5 (Nat.le_refl _)))
  rw [List.nil_append] at hown2
  obtain ⟨g2, c2, rfl, hr2⟩ : ∃ g2 c2, v2 = .slice (some ⟨g2, 0, none⟩) t.length c2 ∧ Row w2 (some ⟨g2, 0, none⟩) (B8 t) := by
    rcases hown2.2 with ⟨hv, _⟩ | ⟨g, cap, cur, hv, hg, _⟩
    · have h8 := (hv2.1 hv).1; cases h8
    · subst hv; exact ⟨g, cap, by first | rfl | (rw [Nat.zero_add]; done), .of_own hown2⟩
  clear hown2 hg2 hv2
  have hcv := fun wx (h : Row wx a0 (B8 t)) => str_at (l := t) (Lib.hid rfl) h cap0 HN.out
  go_wp2_with (first
    | (go_at_call 8; refine (read_any (some ⟨g2, 0, none⟩) c2 t _ hr2 (by simp) (by omega)).mono ?_; rintro e w3 ⟨r, rfl, hr, hrd, hk3⟩; have hcv3 := hcv _ ((hrow2.keptNo hk2).keptNo hk3))
    | (go_at_call 9; refine (told1_any _).mono ?_; rintro e w5 ⟨rfl, hk5⟩))
  have hrf4 : RefR (w3.alloc (.cells #[.string ⟨t.toArray⟩, .int .i64 0, .int .i64 0] 28)) w3.heap.size ⟨t.toArray⟩ t 0 := ⟨0, Blk.new _ _ _, by omega, by simp [ByteArray.size]; omega, by simp, by simp⟩
  have hk4 := (Kept.refl No w3).alloc (.cells #[.string ⟨t.toArray⟩, .int .i64 0, .int .i64 0] 28)
  have hne : r ≠ w3.heap.size := by have := hrd.lt; omega
  have hz2 := hk2.size
  have hz3 := hk3.size
  have hrw : w.heap.size ≤ r := by omega
  have hbw : w.heap.size ≤ w3.heap.size := by omega
  have hrd5 := (hrd.keptNo hk4).keptNo hk5
  have hrf5 := hrf4.kept hk5 (fun f => f)
  have hk05 : Kept No w w5 := ((hk2.trans hk3).trans hk4).trans hk5
  have hown5 := ((hr2.keptNo hk3).keptNo hk4).keptNo hk5
  have hrow5 := hrow2.keptNo hk05
  generalize w3.heap.size = rb at *
  have hB0 : Both w5 w5 r rb ⟨t.toArray⟩ t 0 := ⟨hrd5, hrf5, Kept.refl _ _⟩
  have hnb : ∀ b, Two2 r rb b → b < w5.heap.size → NoByte w5 b := fun b hb _ => hb.elim (fun e => by rw [e]; exact hrd5.noByte) (fun e => by rw [e]; exact hrf5.noByte)
  have hbel : ∀ wx, Kept (Two2 r rb) w5 wx → Below w.heap.size w wx := fun wx h => (hk05.then h (fun i hi e => by show False; rcases e with e | e <;> omega)).below (Nat.le_refl _) (fun _ _ f => f)
  clear hrf4 hrd hk4 hk3 hk2 hk5 hr2 hrow2 hcv hcv3 hrd5 hrf5 hr
  have HCV := Lib.hid (fun wx (h : Row wx a0 (B8 t)) => str_at (l := t) (Lib.hid rfl) h cap0 HN.out)
  have HNB := Lib.hid hnb
  have HBEL := Lib.hid hbel
  have HOWN := Lib.hid hown5
  have HROW := Lib.hid hrow5
  have HB0 := Lib.hid hB0
  clear hnb hbel hown5 hrow5 hB0 HN hi hz0 hz1 hz2
  go_loopw [8] (fun i wr => ∃ (k : Nat) (l1 : List UInt8) (e1 : Int), i = .int .i64 k ∧ k ≤ len1 ∧ k ≤ 40 ∧ Both w5 wr r rb ⟨t.toArray⟩ l1 e1) (fun i _ => 40 - (intOf i).toNat)
  case atStart => exact ⟨0, t, 0, rfl, by omega, by omega, HB0.out⟩
  case round =>
    obtain ⟨k, l1, e1, rfl, hk1, hk40, hB⟩ := hrel
    clear HB0
    by_cases hlt : k < len1 ∧ k < 40
    · obtain ⟨hlt1, hlt2⟩ := hlt
      obtain ⟨b1, off1, rfl, hb1, hc1⟩ : ∃ b off, a1 = some ⟨b, off, none⟩ ∧ b < w.heap.size ∧ ∀ i, i < len1 → w.cell? ⟨b, off + i * 2, none⟩ = some (.int .i64 (z1.getD i (0, 0)).1) ∧ w.cell? ⟨b, off + i * 2 + 1, none⟩ = some (.int .i64 (z1.getD i (0, 0)).2) := by
        rcases HC.out with h | h
        · omega
        · exact h
      obtain ⟨hcA, hcB⟩ := hc1 k hlt1
      have hcA' := ((HBEL.out _ hB.kept).cell (p := ⟨b1, off1 + k * 2, none⟩) hb1).trans hcA
      have hcB' := ((HBEL.out _ hB.kept).cell (p := ⟨b1, off1 + k * 2 + 1, none⟩) hb1).trans hcB
      generalize (z1.getD k (0, 0)).1 = KK at *
      generalize (z1.getD k (0, 0)).2 = NN at *
      obtain ⟨kd, hkd, hkd7⟩ := law_mod KK 7 (by omega) (by omega)
      clear hc1 hcA hcB HC
      have hltI : (k : Int) < len1 := by omega
      have hlt40 : (k : Int) < 40 := by omega
      go_upto_block 2 with fail
      go_cut [9, 10, 11] from 32 to 161 (fun ok s10 s11 wx => ok = .bool true ∧ ∃ l2 e2, Both w5 wx r rb ⟨t.toArray⟩ l2 e2)
      case first =>
        rcases (show kd = 0 ∨ kd = 1 ∨ kd = 2 ∨ kd = 3 ∨ kd = 4 ∨ kd = 5 ∨ kd = 6 from by omega) with rfl | rfl | rfl | rfl | rfl | rfl | rfl
        · have hq : num (taken 1 l1 e1) < 256 := num_le 1 l1 e1 1 (by omega)
          go_wp2_with (first
            | (go_at_call 10; refine (rbyte_any _ r l1 e1 hB.one).mono ?_; rintro e w6 ⟨rfl, ha6⟩; have hS6 := hB.step1 hne ha6)
            | (go_at_call 11; refine (rnum_any _ rb _ l1 e1 _ hS6.2.1 (by omega) (by omega)).mono ?_; rintro e w7 ⟨rfl, ha7⟩; have hB7 := Both.step2 hS6 hne ha7))
          have hB8 : ∃ l2 e2, Both w5 w7 r rb ⟨t.toArray⟩ l2 e2 := ⟨_, _, hB7⟩
          clear hB7 ha7 hS6 ha6 hq
          go_wp2_with fail
          go_meet
          exact ⟨rfl, hB8⟩
        · have hq : num (taken 2 l1 e1) < 65536 := num_le 2 l1 e1 2 (by omega)
          go_wp2_with (first
            | (go_at_call 12; refine (rtwo_any _ r l1 e1 hB.one).mono ?_; rintro e w6 ⟨rfl, ha6⟩; have hS6 := hB.step1 hne ha6)
            | (go_at_call 11; refine (rnum_any _ rb _ l1 e1 _ hS6.2.1 (by omega) (by omega)).mono ?_; rintro e w7 ⟨rfl, ha7⟩; have hB7 := Both.step2 hS6 hne ha7))
          have hB8 : ∃ l2 e2, Both w5 w7 r rb ⟨t.toArray⟩ l2 e2 := ⟨_, _, hB7⟩
          clear hB7 ha7 hS6 ha6 hq
          go_wp2_with fail
          go_meet
          exact ⟨rfl, hB8⟩
        · have hq : num (taken 4 l1 e1) < 4294967296 := num_le 4 l1 e1 4 (by omega)
          go_wp2_with (first
            | (go_at_call 13; refine (rfour_any _ r l1 e1 hB.one).mono ?_; rintro e w6 ⟨rfl, ha6⟩; have hS6 := hB.step1 hne ha6)
            | (go_at_call 11; refine (rnum_any _ rb _ l1 e1 _ hS6.2.1 (by omega) (by omega)).mono ?_; rintro e w7 ⟨rfl, ha7⟩; have hB7 := Both.step2 hS6 hne ha7))
          have hB8 : ∃ l2 e2, Both w5 w7 r rb ⟨t.toArray⟩ l2 e2 := ⟨_, _, hB7⟩
          clear hB7 ha7 hS6 ha6 hq
          go_wp2_with fail
          go_meet
          exact ⟨rfl, hB8⟩
        · have hX := rv_lt 4 0 0 l1 e1 (by decide)
          have hv1 := rvar_any wr r l1 e1 hB.one
          have hv2 := fun wx (h : RefR wx rb ⟨t.toArray⟩ l1 e1) => refvar_any wx rb ⟨t.toArray⟩ l1 e1 h
          obtain ⟨X, L, E, hR⟩ : ∃ X L E, rv 4 0 0 l1 e1 = (X, L, E) := ⟨_, _, _, rfl⟩
          rw [hR] at hX hv1 hv2
          unfold RvIs at hv1
          unfold RrvIs at hv2
          simp only at hv1 hv2 hX
          have HV1 := Lib.hid hv1
          have HV2 := Lib.hid hv2
          clear hv1 hv2 hR
          go_wp2_with (first
            | (go_at_call 14; refine HV1.out.mono ?_; rintro e w6 ⟨rfl, ha6⟩; have hS6 := hB.step1 hne ha6)
            | (go_at_call 15; refine (HV2.out _ hS6.2.1).mono ?_; rintro e w7 ⟨rfl, ha7⟩; have hB7 := Both.step2 hS6 hne ha7))
          have hB8 : ∃ l2 e2, Both w5 w7 r rb ⟨t.toArray⟩ l2 e2 := ⟨_, _, hB7⟩
          clear hB7 ha7 hS6 ha6 hX HV1 HV2
          go_wp2_with fail
          go_meet
          exact ⟨rfl, hB8⟩
        · go_wp2_with (first
            | (go_at_call 16; refine (rbin_any _ r l1 e1 hB.one).mono ?_; rintro e w6 ⟨rfl, ha6⟩; have hS6 := hB.step1 hne ha6)
            | (go_at_call 17; refine (refbin_any _ rb _ l1 e1 hS6.2.1).mono ?_; rintro e w7 ⟨rfl, ha7⟩; have hB7 := Both.step2 hS6 hne ha7))
          have hB8 : ∃ l2 e2, Both w5 w7 r rb ⟨t.toArray⟩ l2 e2 := ⟨_, _, hB7⟩
          clear hB7 ha7 hS6 ha6
          go_wp2_with fail
          go_meet
          exact ⟨rfl, hB8⟩
        · go_wp2_with (first
            | (go_at_call 18; refine (rrest_any _ r l1 e1 hB.one).mono ?_; rintro e w6 ⟨rfl, ha6⟩; have hS6 := hB.step1 hne ha6)
            | (go_at_call 19; refine (refrest_any _ rb _ l1 e1 hS6.2.1).mono ?_; rintro e w7 ⟨rfl, ha7⟩; have hB7 := Both.step2 hS6 hne ha7))
          have hB8 : ∃ l2 e2, Both w5 w7 r rb ⟨t.toArray⟩ l2 e2 := ⟨_, _, hB7⟩
          clear hB7 ha7 hS6 ha6
          go_wp2_with fail
          go_meet
          exact ⟨rfl, hB8⟩
        · have hltw := hB.one.lt
          have hltw2 := hB.two.lt
          go_wp2_with fail
          go_region_held3 (fun wx => wx.cell? ⟨b1, off1 + k * 2 + 1, none⟩ = some (.int .i64 NN) ∧ True) (first | exact ⟨hcB', trivial⟩ | exact ⟨(ha6.kept.cell (p := ⟨b1, off1 + k * 2 + 1, none⟩) (by show b1 < _; have := hB.kept.size; have := hk05.size; simp; omega) (fun e => by have e' : b1 = r := e; omega)).trans hcB', trivial⟩ | exact ⟨(ha7.kept.cell (p := ⟨b1, off1 + k * 2 + 1, none⟩) (by show b1 < _; have := hB.kept.size; have := hk05.size; have := ha6.kept.size; simp at this; omega) (fun e => by have e' : b1 = rb := e; omega)).trans (And.left (by assumption)), trivial⟩)
            (first
              | (go_at_call 20; refine (sub_any _ r l1 e1 NN hB.drew.one).mono ?_; rintro e w6 ⟨s, rfl, hs, hsr, ha6⟩; have hS6 := hB.drew.step1 hne ha6)
              | (go_at_call 21; refine (refsub_any _ rb _ l1 e1 NN hS6.2.1).mono ?_; rintro e w7 ⟨s2, B2, rfl, hs2, hsr2, ha7⟩; have hB7 := Both.step2 hS6 hne ha7))
          go_wp2_with fail
          have hne2 : s ≠ s2 := by have := hsr.lt; omega
          have hsA : w5.heap.size ≤ s := by have := hB.kept.size; simp at hs; omega
          have hsB : w5.heap.size ≤ s2 := by have := hB.kept.size; have := ha6.kept.size; simp at this; omega
          have hrs : r ≠ s ∧ r ≠ s2 ∧ rb ≠ s ∧ rb ≠ s2 := by have := ha6.kept.size; simp at this hs; omega
          have hC0 : Both w7 w7 s s2 B2 (taken NN l1 e1) (leftE NN l1 e1) := ⟨hsr.kept ha7.kept (fun e => hrs.2.2.1 (show s = rb from e).symm) (fun b hb _ => by have e : b = rb := hb; rw [e]; exact hS6.2.1.noByte), hsr2, Kept.refl _ _⟩
          have hC0d := hC0.drew
          clear hS6 ha6 ha7 hsr hsr2 hcA' hcB'
          generalize taken NN l1 e1 = T at *
          generalize leftE NN l1 e1 = E2 at *
          generalize leftL NN l1 e1 = L2 at *
          have hq := num_le 1 T E2 1 (by omega)
          have hb9 := num_le 2 (leftL 1 T E2) (leftE 1 T E2) 2 (by omega)
          have hwq : IntKind.u64.wrap (num (taken 1 T E2) : Int) = (num (taken 1 T E2) : Int) := by rw [IntKind.wrap_u64]; omega
          go_region_with (first
            | (go_at_call 22; refine (left_any _ s T E2 hC0d.one).mono ?_; rintro e w8 ⟨rfl, rfl⟩)
            | (go_at_call 23; refine (rleft_any _ s2 _ T E2 hC0d.two).mono ?_; rintro e w8 ⟨rfl, ha8⟩; have hC1 := Both.step2 ⟨hC0d.one, hC0d.two, hC0d.kept⟩ hne2 ha8)
            | (go_at_call 10; refine (rbyte_any _ s T E2 hC1.one).mono ?_; rintro e w9 ⟨rfl, ha9⟩; have hC2 := hC1.step1 hne2 ha9)
            | (go_at_call 11; refine (rnum_any _ s2 _ T E2 1 hC2.2.1 (by omega) (by omega)).mono ?_; rintro e w10 ⟨rfl, ha10⟩; have hC3 := Both.step2 hC2 hne2 ha10)
            | (go_at_call 16; refine (rbin_any _ s _ _ hC3.one).mono ?_; rintro e w11 ⟨rfl, ha11⟩; have hC4 := hC3.step1 hne2 ha11)
            | (go_at_call 17; refine (refbin_any _ s2 _ _ _ hC4.2.1).mono ?_; rintro e w12 ⟨rfl, ha12⟩; have hC5 := Both.step2 hC4 hne2 ha12; obtain ⟨at5, r0, r1, r2⟩ := hC5.two.cells)
            | (go_at_call 24; refine (err_any _ s _ _ hC5.one).mono ?_; rintro e w13 ⟨rfl, rfl⟩))
          all_goals
            have hB8 : ∃ l2 e2, Both w5 w12 r rb ⟨t.toArray⟩ l2 e2 := ⟨L2, E2, hB7.one.kept hC5.kept (fun e => e.elim (fun e => hrs.1 e) (fun e => hrs.2.1 e)) (fun b hb _ => hb.elim (fun e => by rw [e]; exact hC0.one.noByte) (fun e => by rw [e]; exact hC0.two.noByte)), hB7.two.kept hC5.kept (fun e => e.elim (fun e => hrs.2.2.1 e) (fun e => hrs.2.2.2 e)), hB7.kept.then hC5.kept (fun i hi e => by rcases e with e | e <;> omega)⟩
            clear hC0 hC0d hC1 hC2 hC3 hC4 hC5 hB7 hq hb9 hwq r0 r1 r2
            go_wp2_with fail
            go_meet
            exact ⟨rfl, hB8⟩
      case rest =>
        obtain ⟨rfl, l2, e2, hB9⟩ := hcut
        clear hcA' hcB' hB
        obtain ⟨at9, q0, q1, q2⟩ := hB9.two.cells
        go_wp2_with fail
        go_region_held3 (fun wx => wx.cell? ⟨rb, 2, none⟩ = some (.int .i64 e2) ∧ Both w5 wx r rb ⟨t.toArray⟩ l2 e2) (first | exact ⟨q2, hB9.drew⟩ | exact Both.after (by assumption) hne ha8)
          (first
            | (go_at_call 24; refine (err_any _ r l2 e2 (Both.one (And.right (by assumption)))).mono ?_; rintro e w8 ⟨rfl, rfl⟩)
            | (go_at_call 22; refine (left_any _ r l2 e2 (Both.one (And.right (by assumption)))).mono ?_; rintro e w8 ⟨rfl, rfl⟩)
            | (go_at_call 23; refine (rleft_any _ rb _ l2 e2 (Both.two (And.right (by assumption)))).mono ?_; rintro e w8 ⟨rfl, ha8⟩))
        go_wp2
        go_roundw
        case rel => exact ⟨k + 1, l2, e2, by go_num, by omega, by omega, And.right (by assumption)⟩
        case measure => simp [intOf]; omega
    · have hown9 := row_nobyte HOWN.out hB.kept HNB.out
      have hrow9 := row_nobyte HROW.out hB.kept HNB.out
      have cv1 := str_at (l := t) (show t.length = t.length from rfl) hown9 c2 (by simp)
      have cv2 := HCV.out _ hrow9
      have hbelr := Lib.hid (HBEL.out _ hB.kept)
      clear hown9 hrow9
      by_cases hlt1 : k < len1
      · have hlt1' : (k : Int) < len1 := by omega
        have hge : (40 : Int) ≤ k := by omega
        go_wp2
        go_ret
        exact ⟨rfl, hbelr.out⟩
      · have hge : (len1 : Int) ≤ k := by omega
        go_wp2
        go_ret
        exact ⟨rfl, hbelr.out⟩

end Go.Proofs.Ytfkddmdoepiikaa
