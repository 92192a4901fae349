/-
  FramerMost's walk.
-/
import Derived.Test.YtdeecgmihfakgaaGreatDoorZFrP
namespace Go.Proofs.YtdeecgmihfakgaaGreatDoor
open Go.RowKit
set_option linter.unusedVariables false
set_option linter.unusedSimpArgs false
set_option maxRecDepth 100000


def rs0 (k : Nat) : List UInt8 := [0, 1, 116] ++ (if k = 1 then [0] else [])
def bM (k m : Nat) : List UInt8 := 48 :: (var7 (3 + m + k) ++ rstM k m)
theorem most_feeds {k m : Nat} (hk : k < 2) (hm : m < 1000) {ov : Bool} {M : Int} (hM : M = if ov = true then ((bM k m).length : Int) - 1 else ((bM k m).length : Int)) : ∃ h1 e1 I2 h2 e2, feedS (4 + (k : Int)) M ⟨false, [], 0⟩ (48 :: var7 (3 + m + k)) = ([], ⟨false, h1, e1⟩) ∧ feedS (4 + (k : Int)) M ⟨false, h1, e1⟩ (rstM k m) = (I2, ⟨false, h2, e2⟩) ∧ (ov = true → e1 = 5 ∧ I2 = [] ∧ e2 = 5) ∧ (ov = false → e1 = 0 ∧ I2 = [(qm m, bM k m)] ∧ e2 = 0) ∧ h1.length ≤ 100 := by
  have h := most_1 (M := M) hk hm
  unfold bM at *
  cases ov
  · have hM9 : ¬ M < ((48 :: (var7 (3 + m + k) ++ rstM k m)).length : Int) := by rw [hM, if_neg (by decide)]; omega
    rw [if_neg hM9, if_neg hM9] at h
    exact ⟨_, _, _, _, _, h, most_2 hk hm hM9, fun q => by (cases q), fun _ => ⟨rfl, rfl, rfl⟩, by simp only [List.length_cons]; have := var7_four (n := 3 + m + k) (by omega); omega⟩
  · have hM9 : M < ((48 :: (var7 (3 + m + k) ++ rstM k m)).length : Int) := by rw [hM, if_pos rfl]; omega
    rw [if_pos hM9, if_pos hM9] at h
    exact ⟨_, _, _, _, _, h, feedS_err (show (5 : Int) ≠ 0 by decide), fun _ => ⟨rfl, rfl, rfl⟩, fun q => by (cases q), by simp⟩
theorem own_some {w : World} {B k n : Nat} {e : TypeId} {v : Value} {xs : List Value} (h : w.ownsRow B e k v n xs) (hn : 0 < n) : ∃ g c, v = .slice (some ⟨g, 0, none⟩) n c := by
  rcases h.2 with ⟨rfl, rfl⟩ | ⟨g, cap, cur, rfl, _⟩
  · omega
  · exact ⟨_, _, rfl⟩
theorem b8_all (l : List UInt8) : ∀ u ∈ B8 l, u.oneCell' = true := fun u hu => by
  simp only [B8, List.mem_map] at hu
  obtain ⟨b, _, rfl⟩ := hu
  rfl
theorem cvW8 (n : Nat) (w : World) : (convert 3 5 (.int .i64 (n : Int))).run Tryz.prog w = .ok (.int .u8 ((n % 256 : Nat) : Int)) w := by
  have u := Tryz.underlying3
  have u2 := Tryz.underlying5
  have e : IntKind.u8.wrap ((n : Nat) : Int) = ((n % 256 : Nat) : Int) := by rw [IntKind.wrap_u8]; omega
  go_simp
  try exact e
theorem hdr_lo {n : Nat} (h : n < 128) : B8 (48 :: var7 n) = [.int .u8 48, .int .u8 ((n % 256 : Nat) : Int)] := by
  rw [var7_lt h]
  simp [B8, byteOf_val (show (0 : Int) ≤ (n : Int) by omega) (show (n : Int) ≤ 255 by omega)]
  omega
theorem hdr_hi {n : Nat} (h : ¬ n < 128) (h2 : n < 16384) : B8 (48 :: var7 n) = [.int .u8 48, .int .u8 (((n % 128 : Nat) : Int) + 128), .int .u8 ((n / 128 : Nat) : Int)] := by
  have e1 := byteOf_val (n := (n : Int) % 128 + 128) (by omega) (by omega)
  have e2 := byteOf_val (n := ((n / 128 : Nat) : Int)) (by omega) (by omega)
  rw [var7_ge h, var7_lt (by omega)]
  show [Value.int .u8 ((48 : UInt8).toNat : Int), Value.int .u8 ((byteOf ((n : Int) % 128 + 128)).toNat : Int), Value.int .u8 ((byteOf ((n / 128 : Nat) : Int)).toNat : Int)] = _
  rw [e1, e2]
  rfl
theorem og_T9 {W W' : World} {f B Bh n m : Nat} {v hv : Value} {xs ys : List Value} {cf : Array Value} (h : W.ownsRow B 5 1 v n xs) (hk : Kept (T9 f hv) W W') (hf : Blk W f 147 cf) (hO : W.ownsRow Bh 5 1 hv m ys) (hlt : ∀ g, v.ownBlock = some g → g < Bh) : W'.ownsRow B 5 1 v n xs := og_sv h (fun g hg e => by
  rcases e with e | e
  · subst e
    obtain ⟨cur, hc⟩ := own_typed h hg
    have h9 := blk_one hc hf
    cases h9
  · have h1 := (hO.lt g e).1
    have h2 := hlt g hg
    omega) hk
set_option maxHeartbeats 8000000 in
theorem framerMost_full (v n : Int) (ov : Bool) (w : World) (w0 : (Lit.int .i64 v).wf = true) (w1 : (Lit.int .i64 n).wf = true) (hT : Tabs w) :
    Calls Tryz.prog 14 #[.int .i64 v, .int .i64 n, .bool ov] w fun e w' => e = .returned (.bool true) ∧ Below w.heap.size w w' := by
  obtain ⟨k, hkm, hk⟩ := kind_mod v 2 (by decide) (by decide)
  obtain ⟨j, hjm, hj⟩ := kind_mod n 300 (by decide) (by decide)
  obtain ⟨mm, hmm⟩ : ∃ mm : Nat, mm = 5 + j := ⟨_, rfl⟩
  obtain ⟨nl, hnl⟩ : ∃ nl : Nat, nl = 3 + mm + k := ⟨_, rfl⟩
  let RR : Ending → World → Prop := fun e w' => e = .returned (.bool true) ∧ Below w.heap.size w w'
  go_enter Tryz.func14, Tryz.ntmps14
  generalize hA : ({ tmps := _, defers := [] } : Act) = A
  have F : Fr A 150 [(2, (.bool ov)), (1, (.int .i64 n)), (0, (.int .i64 v))] := by rw [← hA]; exact (Fr.cons (i := 2) (v := (.bool ov)) (Fr.cons (i := 1) (v := (.int .i64 n)) (Fr.cons (i := 0) (v := (.int .i64 v)) (Fr.nil0 rfl rfl) rfl) rfl) rfl)
  clear hA; have H := Hp.start w
  refine wp_seq_k (fun K1 hK1 => gx_region ?_)
  refine zd ?_; clear F A; intro A F
  refine wpList_nil (hK1 _ _ ?_)
  refine wp_seq_k (fun K2 hK2 => gx_region ?_)
  refine zd ?_; clear F A; intro A F
  refine hz_do (v := (.int .u64 ((IntKind.u64.wrap v)))) F rfl (ex_conv rfl (F.e rfl) (cv_u64 _ _)) ?_; clear F A; intro A F
  refine hz_do (v := (.int .u64 ((k : Int)))) F rfl (ex_bin rfl (F.e rfl) gx_evc (rn_rem (by decide) hkm)) ?_; clear F A; intro A F
  refine hz_do (v := (.int .i64 ((k : Int)))) F rfl (ex_conv rfl (F.e rfl) (cv_i64 _ _ (by omega))) ?_; clear F A; intro A F
  refine hz_do F rfl (ex_bin rfl gx_evc (F.e rfl) (rn_add (gx_wrap_i64 (by omega) (by omega)))) ?_; clear F A; intro A F
  refine zd ?_; clear F A; intro A F
  refine wpList_nil (hK2 _ _ ?_)
  refine wp_seq_k (fun K3 hK3 => gx_region ?_)
  refine zd ?_; clear F A; intro A F
  refine hz_do (v := (.int .u64 ((IntKind.u64.wrap n)))) F rfl (ex_conv rfl (F.e rfl) (cv_u64 _ _)) ?_; clear F A; intro A F
  refine hz_do (v := (.int .u64 ((j : Int)))) F rfl (ex_bin rfl (F.e rfl) gx_evc (rn_rem (by decide) hjm)) ?_; clear F A; intro A F
  refine hz_do (v := (.int .i64 ((j : Int)))) F rfl (ex_conv rfl (F.e rfl) (cv_i64 _ _ (by omega))) ?_; clear F A; intro A F
  refine hz_do (v := (.int .i64 ((mm : Int)))) F rfl (ex_bin rfl gx_evc (F.e rfl) (by rw [hmm]; exact rn_add (gx_wrap_i64 (by omega) (by omega)))) ?_; clear F A; intro A F
  refine zd ?_; clear F A; intro A F
  refine wpList_nil (hK3 _ _ ?_)
  refine wp_seq_k (fun K4 hK4 => gx_region ?_)
  refine hz_bs (c := #[.int .u8 0, .int .u8 1, .int .u8 116]) (t := 5) (m := 3) F H rfl (ex_buildSlice rfl (gx_p1 gx_evc (gx_p1 gx_evc (gx_p1 gx_evc gx_p0))) (by kernel_rfl)) ?_; clear F A; intro b5 W A hk hN H9 F; clear H; have H := H9; clear H9
  clear hk hN
  refine zd ?_; clear F A; intro A F
  refine wpList_nil (hK4 _ _ ?_)
  have hRr := own_madeJ (k := 1) (m := 3) H (j := 0) rfl rfl (by decide)
  replace H : Hp _ _ [] := Hp.del [] H
  refine hz_cut (fun A W => ∃ rb : Nat, ∃ rc : Nat, Fr A 150 [(2, (.bool ov)), (6, (.bool false)), (7, (.int .i64 (4 + ((k : Int))))), (8, (.int .i64 ((mm : Int)))), (9, (.slice ((some ⟨rb, 0, none⟩)) ((rs0 k).length) rc))] ∧ Hp w W [] ∧ W.ownsRow w.heap.size 5 1 (.slice ((some ⟨rb, 0, none⟩)) ((rs0 k).length) rc) ((rs0 k).length) ((B8 (rs0 k)))) (fun A W hM => ?_) (fun K6 hK6 => ?_)
  rotate_left
  · skip
    refine wp_seq_k (fun K7 hK7 => gx_region ?_)
    refine zd ?_; clear F A; intro A F
    refine zb (rn_eql) ?_; clear F A; intro A F
    refine wpList_nil (hK7 _ _ ?_)
    refine zc (fun hb8 => ?_) (fun hb8 => ?_)
    · skip
      refine gx_region ?_
      refine zd ?_; clear F A; intro A F
      refine hz_bs (c := #[.int .u8 0]) (t := 5) (m := 1) F H rfl (ex_buildSlice rfl (gx_p1 gx_evc gx_p0) (by kernel_rfl)) ?_; clear F A; intro b9 W A hk hN H9 F; clear H; have H := H9; clear H9
      have hne_hRr_b9 := og_lt hRr hN
      replace hRr := og_kept hRr hk
      clear hk hN
      obtain ⟨i0, hi, hz0, hz1, hz2⟩ := info_parts info_u8
      obtain ⟨v9, W9, hrun, hO9, hg, _⟩ := run_append_own (P := Tryz.prog) _ w.heap.size 25 25 5 i0 _ 1 1 Tryz.underlying25 hi hz0 hz1 hz2 rfl (by decide) (.slice (some ⟨b5, 0, none⟩) 3 3) 3 (B8 [0, 1, 116]) hRr ⟨b9, 0, none⟩ 1 1 [.int .u8 0] rfl (blk_news (H.b.at_ (j := 0) rfl).1) (one_all rfl) (by decide) (by decide) H.size
      replace hO9 : W9.ownsRow w.heap.size 5 1 v9 4 (B8 [0, 1, 116, 0]) := hO9
      have hkS := kept_grown hg; obtain ⟨ra4, rc4, hv9⟩ := own_some hO9 (by omega); subst hv9
      refine hz_do F rfl (ex_builtin rfl (gx_l1 (F.e rfl) (gx_l1 (F.e rfl) gx_l0)) (fun cs => by simp only [builtin]; exact gx_val hrun)) ?_; clear F A; intro A F
      replace H := Hp.grown H hRr hkS (fa1 (sv_lt hne_hRr_b9) fa0)
      clear hrun hg hkS; clear hRr; have hRr := hO9; clear hO9; generalize W9 = W at *
      refine zd ?_; clear F A; intro A F
      refine wpList_nil ?_
      have hk1 : rs0 k = [0, 1, 116, 0] := by have h9 := of_decide_eq_true hb8; unfold rs0; rw [if_pos (by omega)]; rfl
      exact hK6 _ _ ⟨ra4, rc4, (((((F.nil.cons (gx_is (F.g 9 _ rfl) (by rw [hk1]; rfl))).cons (F.g 8 _ rfl)).cons (F.g 7 _ rfl)).cons (F.g 6 _ rfl)).cons (F.g 2 _ rfl)), H.tl, (by rw [hk1]; exact hRr)⟩
    refine wp_skip ?_
    have hk1 : rs0 k = [0, 1, 116] := by have h9 := of_decide_eq_false hb8; unfold rs0; rw [if_neg (by omega)]; rfl
    exact hK6 _ _ ⟨b5, 3, (((((F.nil.cons (gx_is (F.g 9 _ rfl) (by rw [hk1]; rfl))).cons (F.g 8 _ rfl)).cons (F.g 7 _ rfl)).cons (F.g 6 _ rfl)).cons (F.g 2 _ rfl)), H, (by rw [hk1]; exact hRr)⟩
  clear F H hRr; obtain ⟨rb, rc, F, H, hRr⟩ := hM
  refine wp_seq_k (fun K10 hK10 => gx_region ?_)
  iterate 2 (refine zd ?_; clear F A; intro A F)
  obtain ⟨i0, hi, hz0, hz1, hz2⟩ := info_parts info_u8
  have hr0 : 3 ≤ (rs0 k).length ∧ (rs0 k).length ≤ 4 ∧ (rs0 k).length + mm = nl := by have e9 := rstM_len mm hk; have e8 : rstM k mm = rs0 k ++ zm mm := rfl; rw [e8, List.length_append, zm_len] at e9; refine ⟨?_, ?_, by omega⟩ <;> (unfold rs0; split <;> simp)
  obtain ⟨v9, W9, hrun, hO9, hg⟩ := own_zeros (P := Tryz.prog) _ w.heap.size 25 3 25 5 i0 Tryz.underlying25 Tryz.underlying3 hi hz0 hz1 hz2 (.slice (some ⟨rb, 0, none⟩) (rs0 k).length rc) (rs0 k).length (B8 (rs0 k)) hRr mm (by omega) (by omega) (by omega) (by omega) H.size
  rw [hr0.2.2, ← B8_append, show rs0 k ++ zm mm = rstM k mm from rfl] at hO9
  have hkS := kept_grown hg; obtain ⟨rb5, rc5, hv9⟩ := own_some hO9 (by omega); subst hv9
  refine hz_do F rfl (ex_builtin rfl (gx_l1 (F.e rfl) (gx_l1 (F.e rfl) gx_l0)) (fun cs => by simp only [builtin]; exact gx_val hrun)) ?_; clear F A; intro A F
  replace H := Hp.grown H hRr hkS fa0
  clear hrun hg hkS; clear hRr; have hRr := hO9; clear hO9; generalize W9 = W at *
  refine zd ?_; clear F A; intro A F
  refine wpList_nil (hK10 _ _ ?_)
  refine wp_seq_k (fun K11 hK11 => gx_region ?_)
  refine zd ?_; clear F A; intro A F
  refine hz_do F rfl (ex_len rfl (gx_l1 (F.e rfl) gx_l0) (rn_lens Tryz.underlying25)) ?_; clear F A; intro A F
  refine hz_do (v := (.int .u8 (((nl % 256 : Nat) : Int)))) F rfl (ex_conv rfl (F.e rfl) (cvW8 _ _)) ?_; clear F A; intro A F
  refine hz_bs (c := #[.int .u8 48, .int .u8 ((nl % 256 : Nat) : Int)]) (t := 5) (m := 2) F H rfl (ex_buildSlice rfl (gx_p1 gx_evc (gx_p1 (F.e rfl) gx_p0)) (by kernel_rfl)) ?_; clear F A; intro b12 W A hk hN H9 F; clear H; have H := H9; clear H9
  have hne_hRr_b12 := og_lt hRr hN
  replace hRr := og_kept hRr hk
  clear hk hN
  refine zd ?_; clear F A; intro A F
  refine wpList_nil (hK11 _ _ ?_)
  have hHw := own_madeJ (k := 1) (m := 2) H (j := 0) rfl rfl (by decide)
  replace H : Hp _ _ [] := Hp.del [] H
  refine hz_cut (fun A W => ∃ hb : Nat, ∃ hl : Nat, ∃ hc : Nat, Fr A 150 [(2, (.bool ov)), (6, (.bool false)), (7, (.int .i64 (4 + ((k : Int))))), (8, (.int .i64 ((mm : Int)))), (9, (.slice ((some ⟨rb5, 0, none⟩)) nl rc5)), (10, (.slice ((some ⟨hb, 0, none⟩)) hl hc))] ∧ Hp w W [] ∧ W.ownsRow w.heap.size 5 1 (.slice ((some ⟨rb5, 0, none⟩)) nl rc5) nl ((B8 (rstM k mm))) ∧ W.ownsRow w.heap.size 5 1 (.slice ((some ⟨hb, 0, none⟩)) hl hc) hl ((B8 (48 :: var7 nl))) ∧ (hl = (48 :: var7 nl).length)) (fun A W hM => ?_) (fun K13 hK13 => ?_)
  rotate_left
  · skip
    refine wp_seq_k (fun K14 hK14 => gx_region ?_)
    refine zd ?_; clear F A; intro A F
    refine hz_do F rfl (ex_len rfl (gx_l1 (F.e rfl) gx_l0) (rn_lens Tryz.underlying25)) ?_; clear F A; intro A F
    refine zb (rn_geqN (i := nl) (j := 128)) ?_; clear F A; intro A F
    refine wpList_nil (hK14 _ _ ?_)
    refine zc (fun hb15 => ?_) (fun hb15 => ?_)
    · skip
      refine gx_region ?_
      refine zd ?_; clear F A; intro A F
      refine hz_do F rfl (ex_len rfl (gx_l1 (F.e rfl) gx_l0) (rn_lens Tryz.underlying25)) ?_; clear F A; intro A F
      refine zb (rn_remN (i := nl) (j := 128) (by decide)) ?_; clear F A; intro A F
      refine hz_do (v := (.int .u8 (((nl % 128 : Nat) : Int)))) F rfl (ex_conv rfl (F.e rfl) (cvI8 _ _ (by omega) (by omega))) ?_; clear F A; intro A F
      refine hz_do (v := (.int .u8 (((nl % 128 : Nat) : Int) + 128))) F rfl (ex_bin rfl (F.e rfl) gx_evc (rn_add (gx_wrap_u8 (by omega) (by omega)))) ?_; clear F A; intro A F
      refine zd ?_; clear F A; intro A F
      refine hz_do F rfl (ex_len rfl (gx_l1 (F.e rfl) gx_l0) (rn_lens Tryz.underlying25)) ?_; clear F A; intro A F
      refine hz_do F rfl (ex_bin rfl (F.e rfl) gx_evc (rn_quoN (i := nl) (j := 128) (by decide) (gx_wrap_i64 (by omega) (by omega)))) ?_; clear F A; intro A F
      refine hz_do (v := (.int .u8 (((nl / 128 : Nat) : Int)))) F rfl (ex_conv rfl (F.e rfl) (cvI8 _ _ (by omega) (by omega))) ?_; clear F A; intro A F
      refine hz_bs (c := #[.int .u8 48, .int .u8 (((nl % 128 : Nat) : Int) + 128), .int .u8 ((nl / 128 : Nat) : Int)]) (t := 5) (m := 3) F H rfl (ex_buildSlice rfl (gx_p1 gx_evc (gx_p1 (F.e rfl) (gx_p1 (F.e rfl) gx_p0))) (by kernel_rfl)) ?_; clear F A; intro b16 W A hk hN H9 F; clear H; have H := H9; clear H9
      have hne_hRr_b16 := og_lt hRr hN
      have hne_hHw_b16 := og_lt hHw hN
      replace hRr := og_kept hRr hk
      replace hHw := og_kept hHw hk
      clear hk hN
      refine zd ?_; clear F A; intro A F
      refine wpList_nil ?_
      have hh9 : ¬ nl < 128 := by have h9 := of_decide_eq_true hb15; omega
      have hH9 := own_madeJ (k := 1) (m := 3) H (j := 0) rfl rfl (by decide)
      exact hK13 _ _ ⟨b16, 3, 3, ((((((F.nil.cons (gx_is (F.g 10 _ rfl) (by rfl))).cons (F.g 9 _ rfl)).cons (F.g 8 _ rfl)).cons (F.g 7 _ rfl)).cons (F.g 6 _ rfl)).cons (F.g 2 _ rfl)), H.tl, hRr, (by rw [hdr_hi hh9 (by omega)]; exact hH9), (by rw [var7_ge hh9, var7_lt (by omega)]; rfl)⟩
    refine wp_skip ?_
    have hh9 : nl < 128 := by have h9 := of_decide_eq_false hb15; omega
    exact hK13 _ _ ⟨b12, 2, 2, ((((((F.nil.cons (gx_is (F.g 10 _ rfl) (by rfl))).cons (F.g 9 _ rfl)).cons (F.g 8 _ rfl)).cons (F.g 7 _ rfl)).cons (F.g 6 _ rfl)).cons (F.g 2 _ rfl)), H, hRr, (by rw [hdr_lo hh9]; exact hHw), (by rw [var7_lt hh9]; rfl)⟩
  clear F H hRr hHw; obtain ⟨hb, hl, hc, F, H, hRr, hHw, hhl⟩ := hM
  refine wp_seq_k (fun K17 hK17 => gx_region ?_)
  refine zd ?_; clear F A; intro A F
  refine hz_do F rfl (ex_len rfl (gx_l1 (F.e rfl) gx_l0) (rn_lens Tryz.underlying25)) ?_; clear F A; intro A F
  refine zd ?_; clear F A; intro A F
  refine wpList_nil (hK17 _ _ ?_)
  refine wp_seq_k (fun K18 hK18 => gx_region ?_)
  iterate 2 (refine zd ?_; clear F A; intro A F)
  obtain ⟨i0, hi, hz0, hz1, hz2⟩ := info_parts info_u8
  have hhb : 1 ≤ hl ∧ hl ≤ 5 := by rw [hhl]; have := var7_four (n := nl) (by omega); simp only [List.length_cons]; omega
  have hbl : (bM k mm).length = hl + nl := by unfold bM; rw [← hnl, hhl]; have e9 := rstM_len mm hk; simp only [List.length_cons, List.length_append]; omega
  obtain ⟨v9, W9, hrun, hO9, hg, _⟩ := run_append_own (P := Tryz.prog) _ w.heap.size 25 25 5 i0 _ 1 1 Tryz.underlying25 hi hz0 hz1 hz2 rfl (by decide) (.slice (some ⟨hb, 0, none⟩) hl hc) hl (B8 (48 :: var7 nl)) hHw ⟨rb5, 0, none⟩ nl rc5 (B8 (rstM k mm)) (by have e9 := rstM_len mm hk; simp only [B8, List.length_map]; omega) (hRr.cells (g := rb5) rfl) (b8_all _) (by unfold maxLen; omega) (by omega) H.size
  rw [← hbl, ← B8_append, show (48 :: var7 nl) ++ rstM k mm = bM k mm from by unfold bM; rw [hnl]; rfl] at hO9
  have hkS := kept_grown hg; obtain ⟨bb, bc, hv9⟩ := own_some hO9 (by omega); subst hv9
  refine hz_do F rfl (ex_builtin rfl (gx_l1 (F.e rfl) (gx_l1 (F.e rfl) gx_l0)) (fun cs => by simp only [builtin]; exact gx_val hrun)) ?_; clear F A; intro A F
  replace H := Hp.grown H hHw hkS fa0
  clear hrun hg hkS; clear hHw; have hHw := hO9; clear hO9; generalize W9 = W at *
  clear hRr
  refine zd ?_; clear F A; intro A F
  refine wpList_nil (hK18 _ _ ?_)
  refine wp_seq_k (fun K19 hK19 => gx_region ?_)
  refine zd ?_; clear F A; intro A F
  refine hz_do F rfl (ex_len rfl (gx_l1 (F.e rfl) gx_l0) (rn_lens Tryz.underlying25)) ?_; clear F A; intro A F
  refine zd ?_; clear F A; intro A F
  refine wpList_nil (hK19 _ _ ?_)
  refine hz_cut (fun A W => ∃ mo : Int, Fr A 150 [(2, (.bool ov)), (6, (.bool false)), (7, (.int .i64 (4 + ((k : Int))))), (8, (.int .i64 ((mm : Int)))), (10, (.slice ((some ⟨bb, 0, none⟩)) ((bM k mm).length) bc)), (11, (.int .i64 ((hl : Int)))), (12, (.int .i64 mo))] ∧ Hp w W [] ∧ W.ownsRow w.heap.size 5 1 (.slice ((some ⟨bb, 0, none⟩)) ((bM k mm).length) bc) ((bM k mm).length) ((B8 (bM k mm))) ∧ (mo = if ov = true then ((bM k mm).length : Int) - 1 else ((bM k mm).length : Int)) ∧ (2 ≤ mo) ∧ (mo ≤ 1000)) (fun A W hM => ?_) (fun K20 hK20 => ?_)
  rotate_left
  · skip
    refine wp_seq_k (fun K21 hK21 => gx_region ?_)
    refine zd ?_; clear F A; intro A F
    refine wpList_nil (hK21 _ _ ?_)
    refine zc (fun hb22 => ?_) (fun hb22 => ?_)
    · skip
      refine gx_region ?_
      refine zd ?_; clear F A; intro A F
      refine hz_do F rfl (ex_bin rfl (F.e rfl) gx_evc (rn_sub (gx_wrap_i64 (by omega) (by omega)))) ?_; clear F A; intro A F
      refine zd ?_; clear F A; intro A F
      refine wpList_nil ?_
      exact hK20 _ _ ⟨(((bM k mm).length : Int) - 1), (((((((F.nil.cons (gx_is (F.g 12 _ rfl) (by rfl))).cons (F.g 11 _ rfl)).cons (F.g 10 _ rfl)).cons (F.g 8 _ rfl)).cons (F.g 7 _ rfl)).cons (F.g 6 _ rfl)).cons (F.g 2 _ rfl)), H, hHw, (by rw [if_pos (hb22)]), (by omega), (by omega)⟩
    refine wp_skip ?_
    exact hK20 _ _ ⟨((bM k mm).length : Int), (((((((F.nil.cons (gx_is (F.g 12 _ rfl) (by rfl))).cons (F.g 11 _ rfl)).cons (F.g 10 _ rfl)).cons (F.g 8 _ rfl)).cons (F.g 7 _ rfl)).cons (F.g 6 _ rfl)).cons (F.g 2 _ rfl)), H, hHw, (by rw [if_neg (by rw [hb22]; decide)]), (by omega), (by omega)⟩
  clear F H hHw; obtain ⟨mo, F, H, hHw, hmo, hmo2, hmo3⟩ := hM
  refine wp_seq_k (fun K23 hK23 => gx_region ?_)
  iterate 2 (refine zd ?_; clear F A; intro A F)
  refine hz_callX (fun (b9 : Nat) => [⟨b9, 147, #[.int .i64 (4 + ((k : Int))), .int .i64 mo, .bool false, .slice none 0 0, .int .i64 0]⟩]) (NewX _ (4 + ((k : Int))) mo false) F rfl (ex_call rfl rfl (gx_l1 (F.e rfl) (gx_l1 (F.e rfl) (gx_l1 gx_evc gx_l0))) fn_32) (fnew_X (show NewOk (4 + (k : Int)) mo from ⟨by omega, by omega⟩) false _) (fun b9 _ _ h => Hp.add H h.k h.fb h.lo) ?_; clear F H A; intro f1 vv W A hR H F; obtain ⟨rfl, hlo1, -, hk9⟩ := hR
  replace hHw := og_kept hHw hk9
  clear hk9
  obtain ⟨Bf1, hBf1⟩ : ∃ n, n = W.heap.size := ⟨_, rfl⟩
  have hBh1 : w.heap.size ≤ Bf1 := by rw [hBf1]; exact H.size
  have hBw1 : Bf1 ≤ W.heap.size := by rw [hBf1]; exact Nat.le_refl _
  have hO1 : W.ownsRow Bf1 5 1 (.slice none ([] : List UInt8).length 0) ([] : List UInt8).length (B8 []) := own_nil _
  iterate 5 (refine zd ?_; clear F A; intro A F)
  refine wpList_nil (hK23 _ _ ?_)
  refine wp_seq_k (fun K24 hK24 => ?_)
  refine wp_seq_k (fun K25 hK25 => ?_)
  have hlt9 : ∀ g, (Value.slice (some ⟨bb, 0, none⟩) (bM k mm).length bc).ownBlock = some g → g < Bf1 := fun g hg => by rw [hBf1]; exact (hHw.lt g hg).2
  have hOb := hHw; clear hHw
  refine gx_region ?_
  refine zd ?_; clear F A; intro A F
  refine hz_do (v := (.bool false)) F rfl (ex_bin rfl (F.e rfl) gx_evc (rn_pn _ _ _ _)) ?_; clear F A; intro A F
  refine zd ?_; clear F A; intro A F
  refine hz_do1 F rfl (hw_f (X := false) F rfl rfl rfl) (ex_move rfl (F.e rfl)) ?_; clear F A; intro A F
  refine hz_do1 F rfl (hw_f (X := false) F rfl rfl rfl) (ex_bin rfl (F.e rfl) gx_evc (rn_neq)) ?_; clear F A; intro A F
  refine hz_do F rfl (ex_pickF rfl (F.e rfl) (F.e rfl)) ?_; clear F A; intro A F
  refine zd ?_; clear F A; intro A F
  refine hz_callk1 F H rfl (hw_f (X := false) F rfl rfl rfl) (ex_call rfl rfl gx_l0 fn_33) (told10_any _ (hT.kept H.k)) ?_; clear F H A; intro W A hk H F
  replace hO1 := own_keptNo hO1 hk
  replace hBw1 := Nat.le_trans hBw1 hk.size
  replace hOb := own_keptNo hOb hk
  clear hk
  refine hz_do1 F rfl (hw_f (X := false) F rfl rfl rfl) (ex_not rfl (F.e rfl)) ?_; clear F A; intro A F
  refine hz_do F rfl (ex_pickF rfl (F.e rfl) (F.e rfl)) ?_; clear F A; intro A F
  refine wpList_nil (hK25 _ _ ?_)
  refine wp_cond_false (F.e rfl) ?_
  refine wp_skip (hK24 _ _ ?_)
  refine wp_seq_k (fun K27 hK27 => ?_)
  obtain ⟨hx1, ex1, I2, hx2, ex2, hfd1, hfd2, hQ1, hQ0, hx9⟩ := most_feeds hk (show mm < 1000 by omega) hmo
  rw [← hnl] at hfd1
  have hmin : min (bM k mm).length hl = hl := by omega
  have eB : bM k mm = (48 :: var7 nl) ++ rstM k mm := by unfold bM; rw [hnl]; rfl
  have htk : (bM k mm).take hl = 48 :: var7 nl := by rw [eB, hhl, List.take_left]
  have hdp : (bM k mm).drop hl = rstM k mm := by rw [eB, hhl, List.drop_left]
  obtain ⟨a6, hsl6, hr6, hn6, hc6⟩ := slice_takeW (some ⟨bb, 0, none⟩) bc (bM k mm) hl (own_cap9 hOb)
  rw [hmin, htk] at hsl6; rw [htk] at hr6 hn6 hc6
  obtain ⟨a7, c7, hsl7, hr7, hn7, hc7⟩ := slice_dropW (some ⟨bb, 0, none⟩) bc (bM k mm) hl (own_cap9 hOb) (by omega)
  rw [hdp] at hsl7 hr7 hn7 hc7
  refine gx_region ?_
  iterate 3 (refine zd ?_; clear F A; intro A F)
  refine hz_do (v := (.slice a6 ((48 :: var7 nl).length) bc)) F rfl (ex_slice rfl (F.e rfl) rfl (congrArg some (F.e rfl)) rfl (hsl6 _)) ?_; clear F A; intro A F
  have hfB9 := (H.b.at_ (j := 0) rfl).1
  refine hz_callX (fun (x : List It × (Option Addr × Nat) × (Option Addr × Nat)) => [⟨f1, 147, #[.int .i64 (4 + ((k : Int))), .int .i64 mo, .bool false, .slice x.2.2.1 hx1.length x.2.2.2, .int .i64 ex1]⟩]) (FeedR _ f1 (4 + ((k : Int))) mo Bf1 (.slice none (([] : List UInt8)).length 0) [] false hx1 ex1) F rfl (ex_call rfl rfl (gx_l1 (F.e rfl) (gx_l1 (F.e rfl) gx_l0)) fn_34) (feed_any w _ f1 (4 + ((k : Int))) mo false 0 none 0 (([] : List UInt8)) Bf1 hBh1 hBw1 ⟨H.k, (H.b.at_ (j := 0) rfl).1, (H.b.at_ (j := 0) rfl).2, by simp, trivial⟩ hO1 a6 bc ((48 :: var7 nl)) ((hr6 _ (own_row hOb).1)) ((hn6 (own_row hOb).2)) ((by rw [← hhl]; simp only [List.length_nil]; omega)) (hT.kept (Kept.refl _ _)) [] false hx1 ex1 hfd1) (fun x9 _ _ h => Hp.re H h.k (geT9 (H.b.at_ (j := 0) rfl).2 hBh1 hO1) ⟨⟨rfl, fun _ => h.fb⟩, trivial⟩) ?_; clear F H A; intro x9 vv W A hR H F
  obtain ⟨L28, ⟨ia28, ic28⟩, ha28, hc28⟩ := x9; try dsimp only at H
  obtain ⟨rfl, hLm28, hI28, hBy28, -, hO9, hk9⟩ := hR; try dsimp only at hLm28 hI28 hBy28 hO9 F
  replace hBw1 := Nat.le_trans hBw1 hk9.size
  replace hOb := og_T9 hOb hk9 hfB9 hO1 hlt9
  clear hO1; have hO1 := hO9; clear hO9 hk9
  clear hfB9
  have hl9_28 : L28.length = 0 := by rw [pb_len hLm28]; rfl
  iterate 5 (refine zd ?_; clear F A; intro A F)
  refine wpList_nil (hK27 _ _ ?_)
  refine wp_seq_k (fun K29 hK29 => gx_region ?_)
  iterate 3 (refine zd ?_; clear F A; intro A F)
  refine hz_do (v := (.slice a7 ((rstM k mm).length) c7)) F rfl (ex_slice rfl (F.e rfl) (congrArg some (F.e rfl)) rfl rfl (hsl7 _)) ?_; clear F A; intro A F
  have hfB9 := (H.b.at_ (j := 0) rfl).1
  refine hz_callX (fun (x : List It × (Option Addr × Nat) × (Option Addr × Nat)) => [⟨f1, 147, #[.int .i64 (4 + ((k : Int))), .int .i64 mo, .bool false, .slice x.2.2.1 hx2.length x.2.2.2, .int .i64 ex2]⟩]) (FeedR _ f1 (4 + ((k : Int))) mo Bf1 (.slice ha28 hx1.length hc28) I2 false hx2 ex2) F rfl (ex_call rfl rfl (gx_l1 (F.e rfl) (gx_l1 (F.e rfl) gx_l0)) fn_34) (feed_any w _ f1 (4 + ((k : Int))) mo false ex1 ha28 hc28 hx1 Bf1 hBh1 hBw1 ⟨H.k, (H.b.at_ (j := 0) rfl).1, (H.b.at_ (j := 0) rfl).2, by simp, trivial⟩ hO1 a7 c7 ((rstM k mm)) ((hr7 _ (own_row hOb).1)) ((hn7 (own_row hOb).2)) ((by rw [rstM_len mm hk]; omega)) (hT.kept (Kept.refl _ _)) I2 false hx2 ex2 hfd2) (fun x9 _ _ h => Hp.re H h.k (geT9 (H.b.at_ (j := 0) rfl).2 hBh1 hO1) ⟨⟨rfl, fun _ => h.fb⟩, trivial⟩) ?_; clear F H A; intro x9 vv W A hR H F
  obtain ⟨L30, ⟨ia30, ic30⟩, ha30, hc30⟩ := x9; try dsimp only at H
  obtain ⟨rfl, hLm30, hI30, hBy30, -, hO9, hk9⟩ := hR; try dsimp only at hLm30 hI30 hBy30 hO9 F
  replace hBw1 := Nat.le_trans hBw1 hk9.size
  replace hOb := og_T9 hOb hk9 hfB9 hO1 hlt9
  clear hO1; have hO1 := hO9; clear hO9 hk9
  clear hfB9
  iterate 5 (refine zd ?_; clear F A; intro A F)
  refine wpList_nil (hK29 _ _ ?_)
  refine wp_seq_k (fun K31 hK31 => ?_)
  refine wp_seq_k (fun K32 hK32 => gx_region ?_)
  refine zd ?_; clear F A; intro A F
  refine wpList_nil (hK32 _ _ ?_)
  refine zc (fun hb33 => ?_) (fun hb33 => ?_)
  · skip
    refine wp_seq_k (fun K34 hK34 => ?_)
    obtain ⟨q1, q2, q3⟩ := hQ1 hb33
    have hl9_30 : L30.length = 0 := by rw [pb_len hLm30, q2]; rfl
    refine gx_region ?_
    refine zd ?_; clear F A; intro A F
    refine hz_do F rfl (ex_len rfl (gx_l1 (F.e rfl) gx_l0) (rn_lens Tryz.underlying69)) ?_; clear F A; intro A F
    refine zb (rn_eqlN (i := L28.length) (j := 0)) ?_; clear F A; intro A F
    have hr35 : (decide (L28.length = 0)) = true := (decide_eq_true hl9_28)
    replace F := F.hd (congrArg Value.bool hr35)
    refine zd ?_; clear F A; intro A F
    refine hz_do1 F rfl (hw_t F rfl rfl rfl) (ex_move rfl (F.e rfl)) ?_; clear F A; intro A F
    refine hz_do1 F rfl (hw_t F rfl rfl rfl) (ex_bin rfl (F.e rfl) gx_evc (rn_eql)) ?_; clear F A; intro A F
    have hr36 : (decide (ex1 = 5)) = true := (decide_eq_true q1)
    replace F := F.hd (congrArg Value.bool hr36)
    refine hz_do F rfl (ex_pickT rfl (F.e rfl) (F.e rfl)) ?_; clear F A; intro A F
    refine zd ?_; clear F A; intro A F
    refine hz_do1 F rfl (hw_t F rfl rfl rfl) (ex_move rfl (F.e rfl)) ?_; clear F A; intro A F
    refine hz_do1 F rfl (hw_t F rfl rfl rfl) (ex_len rfl (gx_l1 (F.e rfl) gx_l0) (rn_lens Tryz.underlying69)) ?_; clear F A; intro A F
    refine hz_do1 F rfl (hw_t F rfl rfl rfl) (ex_bin rfl (F.e rfl) gx_evc (rn_eqlN (i := L30.length) (j := 0))) ?_; clear F A; intro A F
    have hr37 : (decide (L30.length = 0)) = true := (decide_eq_true hl9_30)
    replace F := F.hd (congrArg Value.bool hr37)
    refine hz_do F rfl (ex_pickT rfl (F.e rfl) (F.e rfl)) ?_; clear F A; intro A F
    refine zd ?_; clear F A; intro A F
    refine hz_do1 F rfl (hw_t F rfl rfl rfl) (ex_move rfl (F.e rfl)) ?_; clear F A; intro A F
    refine hz_do1 F rfl (hw_t F rfl rfl rfl) (ex_bin rfl (F.e rfl) gx_evc (rn_eql)) ?_; clear F A; intro A F
    have hr38 : (decide (ex2 = 5)) = true := (decide_eq_true q3)
    replace F := F.hd (congrArg Value.bool hr38)
    refine hz_do F rfl (ex_pickT rfl (F.e rfl) (F.e rfl)) ?_; clear F A; intro A F
    refine zd ?_; clear F A; intro A F
    refine wpList_nil (hK34 _ _ ?_)
    refine gx_ret ?_
    refine (show bodyPost _ Tryz.f14 RR Exit.ret _ _ from zr ?_)
    exact ⟨by first | rfl | simp, H.k.below (Nat.le_refl _) (fun _ _ f9 => f9)⟩
  refine wp_skip (hK31 _ _ ?_)
  refine wp_seq_k (fun K39 hK39 => ?_)
  obtain ⟨p1, p2, p3⟩ := hQ0 (by simpa using hb33)
  obtain ⟨x3, rfl, hx3⟩ := map_one (hLm30.trans p2)
  have hxp3 : x3.p = qm mm := congrArg Prod.fst hx3; have hxb3 : x3.b = bM k mm := congrArg Prod.snd hx3
  obtain ⟨b3, o3, rfl, hc3⟩ := row_some (own_row hI30).1 (IC_ne x3); have hy3 := hBy30 x3 (.head _)
  have hc3k : ∀ wz, Kept No W wz → ∀ (i : Nat) (u : Value), (IC [x3])[i]? = some u → wz.cell? ⟨b3, o3 + i, none⟩ = some u := fun wz hk i u h => cell_no hk (World.block_lt_of_cell? W _ (hc3 i u h)) (hc3 i u h)
  have hy3k := fun wz (hk : Kept No W wz) => own_keptNo hy3 hk; have hObk := fun wz (hk : Kept No W wz) => own_keptNo hOb hk
  refine wp_region_held_drew (S := fun wx => Hp _ wx [_] ∧ Kept No W wx) (by kernel_rfl) ⟨H.drew, (Kept.refl No _).drew⟩ (fun H9 => ?_); clear H; obtain ⟨H, hKW⟩ := H9
  replace hO1 := own_keptNo hO1 (Kept.refl No _).drew
  replace hBw1 := Nat.le_trans hBw1 (Kept.refl No _).drew.size
  replace hOb := own_keptNo hOb (Kept.refl No _).drew
  generalize World.drew _ = W at *
  refine hzh_do (i := 0) F rfl rfl (by kernel_rfl) (fun _ _ _ h => h) (⟨H, hKW⟩) (fun wz H => (ex_move rfl (F.e rfl))) ?_; clear F A; intro A F
  refine hzh_do (i := 1) F rfl rfl (by kernel_rfl) (fun _ _ _ h => h) (⟨H, hKW⟩) (fun wz H => (ex_len rfl (gx_l1 (F.e rfl) gx_l0) (rn_lens Tryz.underlying69))) ?_; clear F A; intro A F
  refine hzh_do (i := 2) F rfl rfl (by kernel_rfl) (fun _ _ _ h => h) (⟨H, hKW⟩) (fun wz H => (ex_bin rfl (F.e rfl) gx_evc (rn_eqlN (i := L28.length) (j := 0)))) ?_; clear F A; intro A F
  have hr40 : (decide (L28.length = 0)) = true := (decide_eq_true hl9_28)
  replace F := F.hd (congrArg Value.bool hr40)
  refine hzh_do (i := 3) F rfl rfl (by kernel_rfl) (fun _ _ _ h => h) (⟨H, hKW⟩) (fun wz H => (ex_move rfl (F.e rfl))) ?_; clear F A; intro A F
  refine hzh_do1 (i := 4) F rfl rfl (by kernel_rfl) (fun _ _ _ h => h) (⟨H, hKW⟩) (hw_t F rfl rfl rfl) (fun wz H => (ex_move rfl (F.e rfl))) ?_; clear F A; intro A F
  refine hzh_do1 (i := 5) F rfl rfl (by kernel_rfl) (fun _ _ _ h => h) (⟨H, hKW⟩) (hw_t F rfl rfl rfl) (fun wz H => (ex_bin rfl (F.e rfl) gx_evc (rn_eql))) ?_; clear F A; intro A F
  have hr41 : (decide (ex1 = 0)) = true := (decide_eq_true p1)
  replace F := F.hd (congrArg Value.bool hr41)
  refine hzh_do (i := 6) F rfl rfl (by kernel_rfl) (fun _ _ _ h => h) (⟨H, hKW⟩) (fun wz H => (ex_pickT rfl (F.e rfl) (F.e rfl))) ?_; clear F A; intro A F
  refine hzh_do (i := 7) F rfl rfl (by kernel_rfl) (fun _ _ _ h => h) (⟨H, hKW⟩) (fun wz H => (ex_move rfl (F.e rfl))) ?_; clear F A; intro A F
  refine hzh_do1 (i := 8) F rfl rfl (by kernel_rfl) (fun _ _ _ h => h) (⟨H, hKW⟩) (hw_t F rfl rfl rfl) (fun wz H => (ex_move rfl (F.e rfl))) ?_; clear F A; intro A F
  refine hzh_do1 (i := 9) F rfl rfl (by kernel_rfl) (fun _ _ _ h => h) (⟨H, hKW⟩) (hw_t F rfl rfl rfl) (fun wz H => (ex_len rfl (gx_l1 (F.e rfl) gx_l0) (rn_lens Tryz.underlying69))) ?_; clear F A; intro A F
  refine hzh_do1 (i := 10) F rfl rfl (by kernel_rfl) (fun _ _ _ h => h) (⟨H, hKW⟩) (hw_t F rfl rfl rfl) (fun wz H => (ex_bin rfl (F.e rfl) gx_evc (rn_eql))) ?_; clear F A; intro A F
  refine hzh_do (i := 11) F rfl rfl (by kernel_rfl) (fun _ _ _ h => h) (⟨H, hKW⟩) (fun wz H => (ex_pickT rfl (F.e rfl) (F.e rfl))) ?_; clear F A; intro A F
  refine hzh_do (i := 12) F rfl rfl (by kernel_rfl) (fun _ _ _ h => h) (⟨H, hKW⟩) (fun wz H => (ex_move rfl (F.e rfl))) ?_; clear F A; intro A F
  refine hzh_do1 (i := 13) F rfl rfl (by kernel_rfl) (fun _ _ _ h => h) (⟨H, hKW⟩) (hw_t F rfl rfl rfl) (fun wz H => (ex_move rfl (F.e rfl))) ?_; clear F A; intro A F
  refine hzh_do1 (i := 14) F rfl rfl (by kernel_rfl) (fun _ _ _ h => h) (⟨H, hKW⟩) (hw_t F rfl rfl rfl) (fun wz H => (ex_bin rfl (F.e rfl) gx_evc (rn_eql))) ?_; clear F A; intro A F
  have hr42 : (decide (ex2 = 0)) = true := (decide_eq_true p3)
  replace F := F.hd (congrArg Value.bool hr42)
  refine hzh_do (i := 15) F rfl rfl (by kernel_rfl) (fun _ _ _ h => h) (⟨H, hKW⟩) (fun wz H => (ex_pickT rfl (F.e rfl) (F.e rfl))) ?_; clear F A; intro A F
  refine hzh_do (i := 16) F rfl rfl (by kernel_rfl) (fun _ _ _ h => h) (⟨H, hKW⟩) (fun wz H => (ex_move rfl (F.e rfl))) ?_; clear F A; intro A F
  refine hzh_do1 (i := 17) F rfl rfl (by kernel_rfl) (fun _ _ _ h => h) (⟨H, hKW⟩) (hw_t F rfl rfl rfl) (fun wz H => (ex_move rfl (F.e rfl))) ?_; clear F A; intro A F
  refine hzh_do1 (i := 18) F rfl rfl (by kernel_rfl) (fun _ _ _ h => h) (⟨H, hKW⟩) (hw_t F rfl rfl rfl) (fun wz H => (ex_idxaddr rfl (F.e rfl) gx_evc (rn_idx Tryz.underlying69 (gs_86 _) (i := 0) (Nat.succ_pos _)))) ?_; clear F A; intro A F
  refine hzh_do1 (i := 19) F rfl rfl (by kernel_rfl) (fun _ _ _ h => h) (⟨H, hKW⟩) (hw_t F rfl rfl rfl) (fun wz H => (ex_faddr rfl (F.e rfl) (fa_86_1 _ _ _))) ?_; clear F A; intro A F
  refine hzh_do1 (i := 20) F rfl rfl (by kernel_rfl) (fun _ _ _ h => h) (⟨H, hKW⟩) (hw_t F rfl rfl rfl) (fun wz H => (ex_load rfl (F.e rfl) (gl_one (ag_25 _) (hc3k _ H.2 25 _ rfl)))) ?_; clear F A; intro A F
  refine hzh_do1 (i := 21) F rfl rfl (by kernel_rfl) (fun _ _ _ h => h) (⟨H, hKW⟩) (hw_t F rfl rfl rfl) (fun wz H => (ex_conv rfl (F.e rfl) (str_at (Lib.hid rfl) (own_row (hy3k _ H.2)).1 x3.c (fun e => ((own_row (hy3k _ H.2)).2 e).2)))) ?_; clear F A; intro A F
  refine hzh_do1 (i := 22) F rfl rfl (by kernel_rfl) (fun _ _ _ h => h) (⟨H, hKW⟩) (hw_t F rfl rfl rfl) (fun wz H => (ex_move rfl (F.e rfl))) ?_; clear F A; intro A F
  refine hzh_do1 (i := 23) F rfl rfl (by kernel_rfl) (fun _ _ _ h => h) (⟨H, hKW⟩) (hw_t F rfl rfl rfl) (fun wz H => (ex_conv rfl (F.e rfl) (str_at (Lib.hid rfl) (own_row (hObk _ H.2)).1 bc (fun e => ((own_row (hObk _ H.2)).2 e).2)))) ?_; clear F A; intro A F
  refine hzh_do1 (i := 24) F rfl rfl (by kernel_rfl) (fun _ _ _ h => h) (⟨H, hKW⟩) (hw_t F rfl rfl rfl) (fun wz H => (ex_bin rfl (F.e rfl) (F.e rfl) (rn_seql))) ?_; clear F A; intro A F
  have hr43 : (decide ((⟨x3.b.toArray⟩ : ByteArray) = (⟨(bM k mm).toArray⟩ : ByteArray))) = true := (by rw [hxb3]; simp)
  replace F := F.hd (congrArg Value.bool hr43)
  refine hzh_do (i := 25) F rfl rfl (by kernel_rfl) (fun _ _ _ h => h) (⟨H, hKW⟩) (fun wz H => (ex_pickT rfl (F.e rfl) (F.e rfl))) ?_; clear F A; intro A F
  refine hzh_do (i := 26) F rfl rfl (by kernel_rfl) (fun _ _ _ h => h) (⟨H, hKW⟩) (fun wz H => (ex_move rfl (F.e rfl))) ?_; clear F A; intro A F
  refine hzh_do1 (i := 27) F rfl rfl (by kernel_rfl) (fun _ _ _ h => h) (⟨H, hKW⟩) (hw_t F rfl rfl rfl) (fun wz H => (ex_move rfl (F.e rfl))) ?_; clear F A; intro A F
  refine hzh_do1 (i := 28) F rfl rfl (by kernel_rfl) (fun _ _ _ h => h) (⟨H, hKW⟩) (hw_t F rfl rfl rfl) (fun wz H => (ex_idxaddr rfl (F.e rfl) gx_evc (rn_idx Tryz.underlying69 (gs_86 _) (i := 0) (Nat.succ_pos _)))) ?_; clear F A; intro A F
  refine hzh_do1 (i := 29) F rfl rfl (by kernel_rfl) (fun _ _ _ h => h) (⟨H, hKW⟩) (hw_t F rfl rfl rfl) (fun wz H => (ex_faddr rfl (F.e rfl) (fa_86_0 _ _ _))) ?_; clear F A; intro A F
  refine hzh_do1 (i := 30) F rfl rfl (by kernel_rfl) (fun _ _ _ h => h) (⟨H, hKW⟩) (hw_t F rfl rfl rfl) (fun wz H => (ex_faddr rfl (F.e rfl) (fa_33_21 _ _ _))) ?_; clear F A; intro A F
  refine hzh_do1 (i := 31) F rfl rfl (by kernel_rfl) (fun _ _ _ h => h) (⟨H, hKW⟩) (hw_t F rfl rfl rfl) (fun wz H => (ex_load rfl (F.e rfl) (gl_one (ag_9 _) (hc3k _ H.2 21 _ rfl)))) ?_; clear F A; intro A F
  refine hzh_do1 (i := 32) F rfl rfl (by kernel_rfl) (fun _ _ _ h => h) (⟨H, hKW⟩) (hw_t F rfl rfl rfl) (fun wz H => (ex_len rfl (gx_l1 (F.e rfl) gx_l0) (rn_lenstr Tryz.underlying9))) ?_; clear F A; intro A F
  refine hzh_do1 (i := 33) F rfl rfl (by kernel_rfl) (fun _ _ _ h => h) (⟨H, hKW⟩) (hw_t F rfl rfl rfl) (fun wz H => (ex_move rfl (F.e rfl))) ?_; clear F A; intro A F
  refine hzh_do1 (i := 34) F rfl rfl (by kernel_rfl) (fun _ _ _ h => h) (⟨H, hKW⟩) (hw_t F rfl rfl rfl) (fun wz H => (ex_bin rfl (F.e rfl) (F.e rfl) (rn_eqlN (i := x3.p.load.size) (j := mm)))) ?_; clear F A; intro A F
  have hr44 : (decide (x3.p.load.size = mm)) = true := (by rw [hxp3, qm_load]; simp)
  replace F := F.hd (congrArg Value.bool hr44)
  refine hzh_do (i := 35) F rfl rfl (by kernel_rfl) (fun _ _ _ h => h) (⟨H, hKW⟩) (fun wz H => (ex_pickT rfl (F.e rfl) (F.e rfl))) ?_; clear F A; intro A F
  refine hzh_do (i := 36) F rfl rfl (by kernel_rfl) (fun _ _ _ h => h) (⟨H, hKW⟩) (fun wz H => (ex_assign rfl (F.e rfl))) ?_; clear F A; intro A F
  refine wpAnyH_done (by kernel_rfl) ?_ _
  refine hK39 _ _ ?_
  refine gx_ret ?_
  refine (show bodyPost _ Tryz.f14 RR Exit.ret _ _ from zr ?_)
  exact ⟨by first | rfl | simp, H.k.below (Nat.le_refl _) (fun _ _ f9 => f9)⟩
end Go.Proofs.YtdeecgmihfakgaaGreatDoor
