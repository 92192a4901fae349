import Derived.Laws.OwnMore
import Derived.Test.YtomppebamfpimaaGreatDoorYFW
namespace Go.Proofs.YtomppebamfpimaaGreatDoor
open Go.RowKit
set_option linter.unusedVariables false
set_option linter.unusedSimpArgs false
set_option maxRecDepth 100000
theorem cvL8_any (n : Int) (w : World) (h : 0 ≤ n) (h2 : n ≤ 255) : (convert 5 3 (.int .u8 n)).run Tryz.prog w = .ok (.int .i64 n) w := by
 have u := Tryz.underlying3
 have u2 := Tryz.underlying5
 have e : IntKind.i64.wrap n = n := gx_wrap_i64 (by omega) (by omega)
 go_simp
 try exact e
theorem cvL_u64 (n : Int) (w : World) : (convert 3 46 (.int .i64 n)).run Tryz.prog w = .ok (.int .u64 (IntKind.u64.wrap n)) w := by
 have u := Tryz.underlying3
 have u2 := Tryz.underlying46
 go_simp
theorem cvL_i64 (n : Nat) (w : World) (h : n < 9223372036854775808) : (convert 46 3 (.int .u64 (n : Int))).run Tryz.prog w = .ok (.int .i64 (n : Int)) w := by
 have u := Tryz.underlying3
 have u2 := Tryz.underlying46
 have e : IntKind.i64.wrap (n : Int) = n := gx_wrap_i64 (by omega) (by omega)
 go_simp
 try exact e
theorem modL (a : Int) (m : Nat) (h0 : 0 < m) (h1 : m ≤ 1000) : ∃ k : Nat, (IntKind.u64.wrap a).tmod (m : Int) = (k : Int) ∧ k < m := by
 have hw : 0 ≤ IntKind.u64.wrap a := by
  rw [IntKind.wrap_u64]; exact Int.emod_nonneg _ (by decide)
 have h2 := Int.tmod_nonneg (m : Int) hw
 have h3 := Int.tmod_lt_of_pos (IntKind.u64.wrap a) (show (0 : Int) < (m : Int) by omega)
 exact ⟨((IntKind.u64.wrap a).tmod m).toNat, by omega, by omega⟩
theorem eL_0 {v : Int} {p : Pk} (h : rightP v p = true) : eN v p = 0 := if_pos h
def zs8 (k : Nat) : List UInt8 := List.replicate k 0
def lp8 (k : Nat) : Pk := { zk 3 with topic := ⟨#[116]⟩, load := ⟨(zs8 k).toArray⟩ }
theorem zs8_len (k : Nat) : (zs8 k).length = k := List.length_replicate ..
theorem lp8_at (k : Nat) (w : World) : (lp8 k).At ts w := ⟨.nil _ _, .nil _ _, .nil _ _, .nil _ _⟩
theorem lp8_load (k : Nat) : (lp8 k).load.size = k := by show (⟨(zs8 k).toArray⟩ : ByteArray).size = k; rw [ba_size]; exact zs8_len k
theorem lp8_fit {k : Nat} (h : k < 70000) : Fit (lp8 k) := by
 have hl := lp8_load k
 exact ⟨⟨Nat.zero_le _, Nat.zero_le _, Nat.zero_le _, Nat.zero_le _⟩, ⟨by simp [lp8, zk], by simp [lp8, zk]⟩, ⟨Nat.zero_le _, Nat.zero_le _, Nat.zero_le _, Nat.zero_le _, Nat.zero_le _, (show (1 : Nat) ≤ _ by decide), by omega, Nat.zero_le _, Nat.zero_le _, Nat.zero_le _, Nat.zero_le _, by simp [lp8, zk], by simp [lp8, zk], by simp [lp8, zk]⟩, (show (0 : Nat) < _ by decide), (show (0 : Nat) < _ by decide), (show (0 : Nat) < _ by decide), (show (0 : Nat) < _ by decide), (show (0 : Nat) < _ by decide), by simp [lp8, zk]⟩
theorem lp8_rest (v : Int) (k : Nat) : restN v (lp8 k) = 2 + 1 + 0 + secN v [] + k := by
 unfold restN
 rw [if_neg (show ¬ (lp8 k).kind = 1 from (by decide : ¬ (3 : Int) = 1)), if_neg (show ¬ (lp8 k).kind = 2 from (by decide : ¬ (3 : Int) = 2)), if_pos (show (lp8 k).kind = 3 from rfl), lp8_load]
 rfl
theorem lp8_rest4 (k : Nat) : restN 4 (lp8 k) = 3 + k := by
 rw [lp8_rest, show secN 4 [] = 0 from by decide +kernel]
theorem lp8_rest5 (k : Nat) : restN 5 (lp8 k) = 3 + k + 1 := by
 rw [lp8_rest, show secN 5 [] = 1 from by decide +kernel]
 omega
theorem lp8_restl {v : Int} {k : Nat} (hv : v = 4 ∨ v = 5) (h : k < 70000) : restN v (lp8 k) ≤ 268435455 := by
 rcases hv with rfl | rfl
 ·rw [lp8_rest4]; omega
 ·rw [lp8_rest5]; omega
theorem lp8_bare (k : Nat) : lp8 k = bareP (lp8 k) := by kernel_rfl
theorem lp8_right {v : Int} {k : Nat} (hv : v = 4 ∨ v = 5) (h : k < 70000) : rightP v (lp8 k) = true := by
 rw [right_eq v _ (lp8_fit h).opt (lp8_restl hv h)]
 unfold rightD
 rw [decide_eq_true (lp8_bare k)]
 rcases hv with rfl | rfl
 ·kernel_rfl
 ·kernel_rfl
theorem varL_1 {n : Nat} (h : n < 128) : (varL n).length = 1 := by unfold varL; rw [if_pos (by omega)]; rw [var7_lt h]; rfl
theorem varL_2 {n : Nat} (h : 128 ≤ n) (h2 : n < 16384) : (varL n).length = 2 := by unfold varL; rw [if_pos (by omega)]; rw [var7_ge (by omega), var7_lt (by omega)]; rfl
theorem varL_3 {n : Nat} (h : 16384 ≤ n) (h2 : n < 2097152) : (varL n).length = 3 := by unfold varL; rw [if_pos (by omega)]; rw [var7_ge (by omega), var7_ge (by omega), var7_lt (by omega)]; rfl
theorem lp8_size {v : Int} {k : Nat} (hv : v = 4 ∨ v = 5) (h : k < 70000) : sizeN v (lp8 k) = 1 + (varL (restN v (lp8 k))).length + restN v (lp8 k) := if_pos (lp8_right hv h)
theorem lp8_len {v : Int} {k : Nat} (hv : v = 4 ∨ v = 5) (h : k < 70000) : (encL v (lp8 k)).length = 1 + (varL (restN v (lp8 k))).length + restN v (lp8 k) := by rw [← size_len (lp8_fit h).wf]; exact lp8_size hv h
theorem long_mod (a : Int) : ∃ k : Nat, (IntKind.u64.wrap a).tmod 70000 = (k : Int) ∧ k < 70000 := by
 have hw : 0 ≤ IntKind.u64.wrap a := by
  rw [IntKind.wrap_u64]; exact Int.emod_nonneg _ (by decide)
 have h2 := Int.tmod_nonneg (70000 : Int) hw
 have h3 := Int.tmod_lt_of_pos (IntKind.u64.wrap a) (show (0 : Int) < 70000 by omega)
 exact ⟨((IntKind.u64.wrap a).tmod 70000).toNat, by omega, by omega⟩
theorem zs8_cells (k : Nat) : (madeCells #[Value.int .u8 0] (k * 1)).toList = B8 (zs8 k) := by
 rw [Nat.mul_one]
 apply List.ext_getElem
 ·simp [madeCells, zs8]
 ·intro i h1 h2
  simp [madeCells, zs8, B8, Nat.mod_one]
theorem enc_head {v : Int} {k : Nat} (hv : v = 4 ∨ v = 5) (h : k < 70000) : ∃ b t, encL v (lp8 k) = 48 :: b :: t ∧ b.toNat % 128 = restN v (lp8 k) % 128 := by
 have hr := lp8_restl hv h
 have hL : encL v (lp8 k) = by1 (16 * 3 + flagsN (lp8 k)) ++ varL (behB v (lp8 k)).length ++ behB v (lp8 k) := if_pos (lp8_right hv h)
 rw [behB_len _ _ (lp8_fit h).wf, show by1 (16 * 3 + flagsN (lp8 k)) = [48] from by kernel_rfl] at hL
 generalize restN v (lp8 k) = n at *
 have hb : ∀ x : Nat, x < 256 → (byteOf (x : Int)).toNat = x := fun x hx => by
  have := byteOf_val (n := (x : Int)) (by omega) (by omega)
  omega
 have hV : varL n = var7 n := if_pos hr
 rw [hV] at hL
 by_cases h1 : n < 128
 ·rw [var7_lt h1] at hL
  exact ⟨_, _, hL, by rw [hb n (by omega)]⟩
 ·rw [var7_ge h1] at hL
  refine ⟨_, _, hL, ?_⟩
  rw [show (n : Int) % 128 + 128 = ((n % 128 + 128 : Nat) : Int) by omega, hb _ (by omega)]
  omega
theorem lp8_restk {k : Nat} (m : Nat) (hk : k < 2) : restN (4 + (k : Int)) (lp8 m) = 3 + m + k := by
 have : k = 0 ∨ k = 1 := by omega
 rcases this with rfl | rfl
 ·exact lp8_rest4 m
 ·exact lp8_rest5 m
theorem make_zeros (w : World) (n : Nat) (h : n < 70000) : ∃ w', (Instr.makeSlice 25 (.int .i64 (n : Int)) (.int .i64 (n : Int))).run Tryz.prog w = .ok (.slice (some ⟨w.heap.size, 0, none⟩) (zs8 n).length n) w' ∧ Row w' (some ⟨w.heap.size, 0, none⟩) (B8 (zs8 n)) ∧ Kept No w w' := by
 obtain ⟨i0, hi, hz0, hz1, hz2⟩ := info_parts info_u8
 obtain ⟨w', h1, h2, h3⟩ := run_make_full (P := Tryz.prog) w w.heap.size 25 5 i0 _ 1 Tryz.underlying25 hi hz0 hz1 .i64 .i64 n (by rw [hz2]; omega) (by unfold maxLen; omega) (Nat.le_refl _)
 refine ⟨w', by rw [zs8_len]; exact h1, ?_, (Kept.refl No w).grown h3 (by simp)⟩
 have h4 := zs8_cells n
 rw [show (Value.int .u8 0).cells = #[Value.int .u8 0] from rfl, h4] at h2
 exact .of_own h2
set_option maxHeartbeats 8000000 in
theorem encodeLong_walk (v n : Int) (w : World) (hT : Tabs w) :
  Calls Tryz.prog 6 #[.int .i64 v, .int .i64 n] w fun e w' => e = .returned (.bool true) ∧ Below w.heap.size w w' := by
 obtain ⟨k, hkm, hk⟩ := modL v 2 (by decide) (by decide)
 obtain ⟨m, hmm, hm⟩ := long_mod n
 have hr0 := lp8_restk m hk
 have hv9 : 4 + (k : Int) = 4 ∨ 4 + (k : Int) = 5 := by omega
 let RR : Ending → World → Prop := fun e w' => e = .returned (.bool true) ∧ Below w.heap.size w w'
 go_enter Tryz.func6, Tryz.ntmps6
 generalize hA : ({ tmps := _, defers := [] } : Act) = A
 have F : Fr A 86 [(1, (.int .i64 n)), (0, (.int .i64 v))] := by rw [← hA]; exact (Fr.cons (i := 1) (v := (.int .i64 n)) (Fr.cons (i := 0) (v := (.int .i64 v)) (Fr.nil0 rfl rfl) rfl) rfl)
 clear hA; have H := Hp.start w
 refine wp_seq_k (fun K1 hK1 => gx_region ?_)
 refine zd ?_; intro A F
 refine wpList_nil (hK1 _ _ ?_)
 refine wp_seq_k (fun K2 hK2 => gx_region ?_)
 refine zd ?_; intro A F
 refine hz_do F rfl (ex_conv rfl (F.e rfl) (cvL_u64 _ _)) ?_; intro A F
 refine zb (rn_rem (by decide) hkm) ?_; intro A F
 refine hz_do F rfl (ex_conv rfl (F.e rfl) (cvL_i64 _ _ (by omega))) ?_; intro A F
 refine hz_do F rfl (ex_bin rfl gx_evc (F.e rfl) (rn_add (gx_wrap_i64 (by omega) (by omega)))) ?_; intro A F
 refine zd ?_; intro A F
 refine wpList_nil (hK2 _ _ ?_)
 refine wp_seq_k (fun K3 hK3 => gx_region ?_)
 refine zd ?_; intro A F
 refine hz_do F rfl (ex_conv rfl (F.e rfl) (cvL_u64 _ _)) ?_; intro A F
 refine zb (rn_rem (by decide) hmm) ?_; intro A F
 refine hz_do F rfl (ex_conv rfl (F.e rfl) (cvL_i64 _ _ (by omega))) ?_; intro A F
 refine zd ?_; intro A F
 refine wpList_nil (hK3 _ _ ?_)
 refine wp_seq_k (fun K4 hK4 => gx_region ?_)
 refine zd ?_; intro A F
 obtain ⟨W9, hr9, hz9, hk9⟩ := make_zeros w m hm
 refine hz_do (v := .slice (some ⟨w.heap.size, 0, none⟩) (zs8 m).length m) F rfl (ex_makeSlice rfl (F.e rfl) (F.e rfl) hr9) ?_; intro A F
 replace H := H.kept hk9; clear hr9 hk9
 refine hz_do F rfl (ex_conv rfl (F.e rfl) (str8 hz9 (by simp))) ?_; intro A F
 refine hz_do (v := (Pk.val ((lp8 m)) ts)) F rfl (ex_build rfl (gx_p1 gx_evc (gx_p1 gx_evc (gx_p1 (F.e rfl) gx_p0))) (by kernel_rfl)) ?_; intro A F
 refine hz_new (c := zeroPk) (t := 33) F H rfl (ex_alloc rfl (al_33 _)) ?_; clear F A; intro b5 W A hk hN H9 F; clear H; have H := H9; clear H9
 clear hk hN
 obtain ⟨W9, hr, hB, hk⟩ := gx_storeAgg (P := Tryz.prog) (S := 33) (c := (Pk.cells ((lp8 m)) ts)) _ (H.b.at_ (j := 0) rfl).1 (gs_33 _) rfl (pk_one _ _)
 refine hz_st (ex_store rfl (F.e rfl) (F.e rfl) hr) ?_; clear hr; replace H : Hp _ _ [_] := Hp.turn [] H hk hB; clear hk hB
 refine wpList_nil (hK4 _ _ ?_)
 refine wp_seq_k (fun K6 hK6 => gx_region ?_)
 refine zd ?_; intro A F
 refine hz_do F rfl (ex_bin rfl gx_evc (F.e rfl) (rn_add (gx_wrap_i64 (by omega) (by omega)))) ?_; intro A F
 refine zd ?_; intro A F
 refine wpList_nil (hK6 _ _ ?_)
 refine hz_cut (fun A W => ∃ rs : Nat, Fr A 86 [(4, (.bool false)), (5, (.int .i64 (4 + ((k : Int))))), (7, (.pointer (some ⟨b5, 0, none⟩))), (8, (.int .i64 ((rs : Int))))] ∧ Hp w W [⟨b5, 33, (Pk.cells ((lp8 m)) ts)⟩] ∧ (rs = restN (4 + (k : Int)) (lp8 m))) (fun A W hM => ?_) (fun K7 hK7 => ?_)
 rotate_left
 ·skip
  refine wp_seq_k (fun K8 hK8 => gx_region ?_)
  refine zd ?_; intro A F
  refine zb (rn_eql) ?_; intro A F
  refine wpList_nil (hK8 _ _ ?_)
  refine zc (fun hb9 => ?_) (fun hb9 => ?_)
  ·skip
   refine gx_region ?_
   refine zd ?_; intro A F
   refine hz_do F rfl (ex_bin rfl (F.e rfl) gx_evc (rn_add (gx_wrap_i64 (by omega) (by omega)))) ?_; intro A F
   refine zd ?_; intro A F
   refine wpList_nil ?_
   exact hK7 _ _ ⟨(restN (4 + (k : Int)) (lp8 m)), ((((F.nil.cons (gx_is (F.g 8 _ rfl) (congrArg (Value.int .i64) (by have h9 := of_decide_eq_true hb9; rw [hr0]; omega)))).cons (F.g 7 _ rfl)).cons (F.g 5 _ rfl)).cons (F.g 4 _ rfl)), H, rfl⟩
  refine wp_skip ?_
  exact hK7 _ _ ⟨(restN (4 + (k : Int)) (lp8 m)), ((((F.nil.cons (gx_is (F.g 8 _ rfl) (congrArg (Value.int .i64) (by have h9 := of_decide_eq_false hb9; rw [hr0]; omega)))).cons (F.g 7 _ rfl)).cons (F.g 5 _ rfl)).cons (F.g 4 _ rfl)), H, rfl⟩
 clear F H; obtain ⟨rs, F, H, hrs⟩ := hM
 refine wp_seq_k (fun K10 hK10 => gx_region ?_)
 refine zd ?_; intro A F
 refine wpList_nil (hK10 _ _ ?_)
 refine hz_cut (fun A W => ∃ s2 : Nat, Fr A 86 [(4, (.bool false)), (5, (.int .i64 (4 + ((k : Int))))), (7, (.pointer (some ⟨b5, 0, none⟩))), (8, (.int .i64 ((rs : Int)))), (9, (.int .i64 ((s2 : Int))))] ∧ Hp w W [⟨b5, 33, (Pk.cells ((lp8 m)) ts)⟩] ∧ (s2 = if 128 ≤ rs then 3 else 2)) (fun A W hM => ?_) (fun K11 hK11 => ?_)
 rotate_left
 ·skip
  refine wp_seq_k (fun K12 hK12 => gx_region ?_)
  refine zd ?_; intro A F
  refine zb (rn_geqN (i := rs) (j := 128)) ?_; intro A F
  refine wpList_nil (hK12 _ _ ?_)
  refine zc (fun hb13 => ?_) (fun hb13 => ?_)
  ·skip
   refine gx_region ?_
   refine zd ?_; intro A F
   refine wpList_nil ?_
   exact hK11 _ _ ⟨3, (((((F.nil.cons (gx_is (F.g 9 _ rfl) (rfl))).cons (F.g 8 _ rfl)).cons (F.g 7 _ rfl)).cons (F.g 5 _ rfl)).cons (F.g 4 _ rfl)), H, (by rw [if_pos (by have h9 := of_decide_eq_true hb13; omega)])⟩
  refine wp_skip ?_
  exact hK11 _ _ ⟨2, (((((F.nil.cons (gx_is (F.g 9 _ rfl) (rfl))).cons (F.g 8 _ rfl)).cons (F.g 7 _ rfl)).cons (F.g 5 _ rfl)).cons (F.g 4 _ rfl)), H, (by rw [if_neg (by have h9 := of_decide_eq_false hb13; omega)])⟩
 clear F H; obtain ⟨s2, F, H, hs2⟩ := hM
 refine hz_cut (fun A W => ∃ sz : Nat, Fr A 86 [(4, (.bool false)), (5, (.int .i64 (4 + ((k : Int))))), (7, (.pointer (some ⟨b5, 0, none⟩))), (8, (.int .i64 ((rs : Int)))), (9, (.int .i64 ((sz : Int))))] ∧ Hp w W [⟨b5, 33, (Pk.cells ((lp8 m)) ts)⟩] ∧ (sz = 1 + (varL rs).length) ∧ (sz ≤ 4)) (fun A W hM => ?_) (fun K14 hK14 => ?_)
 rotate_left
 ·skip
  refine wp_seq_k (fun K15 hK15 => gx_region ?_)
  refine zd ?_; intro A F
  refine zb (rn_geqN (i := rs) (j := 16384)) ?_; intro A F
  refine wpList_nil (hK15 _ _ ?_)
  refine zc (fun hb16 => ?_) (fun hb16 => ?_)
  ·skip
   refine gx_region ?_
   refine zd ?_; intro A F
   refine wpList_nil ?_
   exact hK14 _ _ ⟨4, (((((F.nil.cons (gx_is (F.g 9 _ rfl) (rfl))).cons (F.g 8 _ rfl)).cons (F.g 7 _ rfl)).cons (F.g 5 _ rfl)).cons (F.g 4 _ rfl)), H, (by rw [varL_3 (by have h9 := of_decide_eq_true hb16; omega) (by omega)]), (by decide)⟩
  refine wp_skip ?_
  exact hK14 _ _ ⟨s2, (((((F.nil.cons (gx_is (F.g 9 _ rfl) (rfl))).cons (F.g 8 _ rfl)).cons (F.g 7 _ rfl)).cons (F.g 5 _ rfl)).cons (F.g 4 _ rfl)), H, (by have h9 := of_decide_eq_false hb16; exact if h8 : 128 ≤ rs then (by rw [hs2, if_pos h8, varL_2 h8 (by omega)]) else (by rw [hs2, if_neg h8, varL_1 (by omega)])), (by rw [hs2]; split <;> omega)⟩
 clear F H; obtain ⟨sz, F, H, hsz, hs4⟩ := hM
 have hE2 : sizeN (4 + (k : Int)) (lp8 m) = sz + rs := by rw [lp8_size hv9 hm, ← hrs, ← hsz]
 have hE1 : (encL (4 + (k : Int)) (lp8 m)).length = sz + rs := by rw [lp8_len hv9 hm, ← hrs, ← hsz]
 have hER := lp8_right hv9 hm
 obtain ⟨x9, t9, hx9, hy9⟩ := enc_head hv9 hm; rw [← hrs] at hy9
 have hl9 : 1 < (encL (4 + (k : Int)) (lp8 m)).length := by rw [hx9]; simp
 have hx0 : ((encL (4 + (k : Int)) (lp8 m))[0]'(by omega)).toNat = 48 := by simp only [hx9]; rfl
 have hx1 : ((encL (4 + (k : Int)) (lp8 m))[1]'hl9).toNat = x9.toNat := by simp only [hx9]; rfl
 have hx8 : x9.toNat < 256 := UInt8.toNat_lt _
 refine wp_seq_k (fun K17 hK17 => gx_region ?_)
 refine zd ?_; intro A F
 refine hz_do F rfl (ex_load rfl (F.e rfl) (gl_agg ((Pk.cells ((lp8 m)) ts)) rfl (ga_33 _) (gs_33 _) (fun i => H.cs 0 rfl i))) ?_; intro A F
 refine hz_call (R := EncA (4 + ((k : Int))) ((lp8 m))) F H rfl (ex_call rfl rfl (gx_l1 (F.e rfl) (gx_l1 (F.e rfl) gx_l0)) fn_18) (encA (encode_any (4 + (k : Int)) (lp8 m) ts _ (lp8_at _ _) (lp8_fit hm) (hT.kept H.k) (fun _ => rfl))) ?_; clear F H A; intro vv W A hR hk H F; obtain ⟨ae18, ce18, rfl, hRE18, hNE18⟩ := hR
 clear hk
 obtain ⟨wE18, KE18, hRE18⟩ : ∃ w1, Kept No w1 W ∧ Row w1 ae18 (B8 (encL (4 + ((k : Int))) ((lp8 m)))) := ⟨W, Kept.refl No W, hRE18⟩
 iterate 5 (refine zd ?_; intro A F)
 refine wpList_nil (hK17 _ _ ?_)
 refine wp_seq_k (fun K19 hK19 => ?_)
 obtain ⟨b9, off9, ha9, hbb9, _⟩ := (hRE18.keptNo KE18).byte (k := 1) hl9
 refine gx_region ?_
 refine hz_callk F H rfl (ex_call rfl rfl gx_l0 fn_16) (told8_any _ (hT.kept H.k)) ?_; clear F H A; intro W A hk H F
 replace KE18 := KE18.trans hk
 clear hk
 refine zd ?_; intro A F
 refine hz_do1 F rfl (hw_t F rfl rfl rfl) (ex_move rfl (F.e rfl)) ?_; intro A F
 refine hz_do1 F rfl (hw_t F rfl rfl rfl) (ex_bin rfl (F.e rfl) gx_evc (rn_eqlN (i := eN (4 + ((k : Int))) ((lp8 m))) (j := 0))) ?_; intro A F
 have hr21 : (decide (eN (4 + ((k : Int))) ((lp8 m)) = 0)) = true := (decide_eq_true (eL_0 hER))
 replace F := F.hd (congrArg Value.bool hr21)
 refine hz_do F rfl (ex_pickT rfl (F.e rfl) (F.e rfl)) ?_; intro A F
 refine zd ?_; intro A F
 refine hz_do1 F rfl (hw_t F rfl rfl rfl) (ex_move rfl (F.e rfl)) ?_; intro A F
 refine hz_do1 F rfl (hw_t F rfl rfl rfl) (ex_load rfl (F.e rfl) (gl_agg ((Pk.cells ((lp8 m)) ts)) rfl (ga_33 _) (gs_33 _) (fun i => H.cs 0 rfl i))) ?_; intro A F
 refine hz_callk1 F H rfl (hw_t F rfl rfl rfl) (ex_call rfl rfl (gx_l1 (F.e rfl) (gx_l1 (F.e rfl) gx_l0)) fn_26) (Rest_any (4 + (k : Int)) (lp8 m) ts _ (lp8_at _ _) (lp8_fit hm) (hT.kept H.k) (by simp [lp8, zk])) ?_; clear F H A; intro W A hk H F
 replace KE18 := KE18.trans hk
 clear hk
 refine hz_do1 F rfl (hw_t F rfl rfl rfl) (ex_move rfl (F.e rfl)) ?_; intro A F
 refine hz_do1 F rfl (hw_t F rfl rfl rfl) (ex_bin rfl (F.e rfl) (F.e rfl) (rn_eqlN (i := restN (4 + (k : Int)) (lp8 m)) (j := rs))) ?_; intro A F
 have hr23 : (decide (restN (4 + (k : Int)) (lp8 m) = rs)) = true := (decide_eq_true (by omega))
 replace F := F.hd (congrArg Value.bool hr23)
 refine hz_do F rfl (ex_pickT rfl (F.e rfl) (F.e rfl)) ?_; intro A F
 refine zd ?_; intro A F
 refine hz_do1 F rfl (hw_t F rfl rfl rfl) (ex_move rfl (F.e rfl)) ?_; intro A F
 refine hz_do1 F rfl (hw_t F rfl rfl rfl) (ex_len rfl (gx_l1 (F.e rfl) gx_l0) (rn_lens Tryz.underlying25)) ?_; intro A F
 refine hz_do1 F rfl (hw_t F rfl rfl rfl) (ex_move rfl (F.e rfl)) ?_; intro A F
 refine hz_do1 F rfl (hw_t F rfl rfl rfl) (ex_move rfl (F.e rfl)) ?_; intro A F
 refine hz_do1 F rfl (hw_t F rfl rfl rfl) (ex_bin rfl (F.e rfl) (F.e rfl) (rn_add (gx_wrap_i64 (by omega) (by omega)))) ?_; intro A F
 refine hz_do1 F rfl (hw_t F rfl rfl rfl) (ex_bin rfl (F.e rfl) (F.e rfl) (rn_eql)) ?_; intro A F
 have hr24 : (decide ((((encL (4 + ((k : Int))) ((lp8 m))).length) : Int) = ((sz : Int)) + ((rs : Int)))) = true := (decide_eq_true (by omega))
 replace F := F.hd (congrArg Value.bool hr24)
 refine hz_do F rfl (ex_pickT rfl (F.e rfl) (F.e rfl)) ?_; intro A F
 refine zd ?_; intro A F
 refine hz_do1 F rfl (hw_t F rfl rfl rfl) (ex_move rfl (F.e rfl)) ?_; intro A F
 refine hz_do1 F rfl (hw_t F rfl rfl rfl) (ex_load rfl (F.e rfl) (gl_agg ((Pk.cells ((lp8 m)) ts)) rfl (ga_33 _) (gs_33 _) (fun i => H.cs 0 rfl i))) ?_; intro A F
 refine hz_callk1 F H rfl (hw_t F rfl rfl rfl) (ex_call rfl rfl (gx_l1 (F.e rfl) (gx_l1 (F.e rfl) gx_l0)) fn_20) (size_any8 (4 + (k : Int)) (lp8 m) ts _ (lp8_at _ _) (lp8_fit hm) (hT.kept H.k)) ?_; clear F H A; intro W A hk H F
 replace KE18 := KE18.trans hk
 clear hk
 refine hz_do1 F rfl (hw_t F rfl rfl rfl) (ex_move rfl (F.e rfl)) ?_; intro A F
 refine hz_do1 F rfl (hw_t F rfl rfl rfl) (ex_move rfl (F.e rfl)) ?_; intro A F
 refine hz_do1 F rfl (hw_t F rfl rfl rfl) (ex_bin rfl (F.e rfl) (F.e rfl) (rn_add (gx_wrap_i64 (by omega) (by omega)))) ?_; intro A F
 refine hz_do1 F rfl (hw_t F rfl rfl rfl) (ex_bin rfl (F.e rfl) (F.e rfl) (rn_eql)) ?_; intro A F
 have hr26 : (decide ((sizeN (4 + (k : Int)) (lp8 m) : Int) = ((sz : Int)) + ((rs : Int)))) = true := (decide_eq_true (by omega))
 replace F := F.hd (congrArg Value.bool hr26)
 refine hz_do F rfl (ex_pickT rfl (F.e rfl) (F.e rfl)) ?_; intro A F
 refine zd ?_; intro A F
 refine hz_do1 F rfl (hw_t F rfl rfl rfl) (ex_move rfl (F.e rfl)) ?_; intro A F
 refine hz_do1 (v := (.pointer (some ⟨b9, (off9 + 0 * 1), none⟩))) F rfl (hw_t F rfl rfl rfl) (ex_idxaddr rfl ((F.e rfl).trans (show _ = Value.slice (some ⟨b9, off9, none⟩) _ _ from by first | (rw [← ha9]; done) | (rw [← ha9]; rfl))) gx_evc (rn_idx (i := 0) Tryz.underlying25 (gs1_5 _) (by omega))) ?_; intro A F
 refine hz_do1 (v := (.int .u8 48)) F rfl (hw_t F rfl rfl rfl) (ex_load rfl (F.e rfl) (gl_one (ag_5 _) (by have h9 := (hRE18.keptNo KE18).byte_t (k := 0) ha9 (by omega); rw [hx0] at h9; exact h9))) ?_; intro A F
 refine hz_do1 F rfl (hw_t F rfl rfl rfl) (ex_bin rfl (F.e rfl) gx_evc (rn_eql)) ?_; intro A F
 refine hz_do F rfl (ex_pickT rfl (F.e rfl) (F.e rfl)) ?_; intro A F
 refine zd ?_; intro A F
 refine hz_do1 F rfl (hw_t F rfl rfl rfl) (ex_move rfl (F.e rfl)) ?_; intro A F
 refine hz_do1 (v := (.pointer (some ⟨b9, (off9 + 1 * 1), none⟩))) F rfl (hw_t F rfl rfl rfl) (ex_idxaddr rfl ((F.e rfl).trans (show _ = Value.slice (some ⟨b9, off9, none⟩) _ _ from by first | (rw [← ha9]; done) | (rw [← ha9]; rfl))) gx_evc (rn_idx (i := 1) Tryz.underlying25 (gs1_5 _) (by omega))) ?_; intro A F
 refine hz_do1 (v := (.int .u8 ((x9.toNat : Int)))) F rfl (hw_t F rfl rfl rfl) (ex_load rfl (F.e rfl) (gl_one (ag_5 _) (by have h9 := (hRE18.keptNo KE18).byte_t (k := 1) ha9 (by omega); rw [hx1] at h9; exact h9))) ?_; intro A F
 refine hz_do1 F rfl (hw_t F rfl rfl rfl) (ex_bin rfl (F.e rfl) gx_evc (rn_remN (i := x9.toNat) (j := 128) (by decide))) ?_; intro A F
 refine hz_do1 (v := (.int .i64 (((x9.toNat % 128 : Nat) : Int)))) F rfl (hw_t F rfl rfl rfl) (ex_conv rfl (F.e rfl) (cvL8_any _ _ (by omega) (by omega))) ?_; intro A F
 refine hz_do1 F rfl (hw_t F rfl rfl rfl) (ex_move rfl (F.e rfl)) ?_; intro A F
 refine hz_do1 F rfl (hw_t F rfl rfl rfl) (ex_bin rfl (F.e rfl) gx_evc (rn_remN (i := rs) (j := 128) (by decide))) ?_; intro A F
 refine hz_do1 F rfl (hw_t F rfl rfl rfl) (ex_bin rfl (F.e rfl) (F.e rfl) (rn_eqlN (i := (x9.toNat % 128)) (j := (rs % 128)))) ?_; intro A F
 have hr27 : (decide ((x9.toNat % 128) = (rs % 128))) = true := (decide_eq_true (by omega))
 replace F := F.hd (congrArg Value.bool hr27)
 refine hz_do F rfl (ex_pickT rfl (F.e rfl) (F.e rfl)) ?_; intro A F
 refine zd ?_; intro A F
 refine wpList_nil (hK19 _ _ ?_)
 refine gx_ret ?_
 refine (show bodyPost _ Tryz.f6 RR Exit.ret _ _ from zr ?_)
 exact ⟨by first | rfl | simp, H.k.below (Nat.le_refl _) (fun _ _ f9 => f9)⟩
theorem encodeLong_full (v n : Int) (w : World) (w0 : (Lit.int .i64 v).wf = true) (w1 : (Lit.int .i64 n).wf = true) (hT : Tabs w) :
  Calls Tryz.prog 6 #[.int .i64 v, .int .i64 n] w fun e w' => e = .returned (.bool true) ∧ Below w.heap.size w w' :=
 encodeLong_walk v n w hT
end Go.Proofs.YtomppebamfpimaaGreatDoor
