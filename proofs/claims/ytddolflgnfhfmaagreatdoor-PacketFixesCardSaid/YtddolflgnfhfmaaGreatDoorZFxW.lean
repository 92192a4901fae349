import Derived.Test.YtddolflgnfhfmaaGreatDoorZHxF4
import Derived.Test.YtddolflgnfhfmaaGreatDoorZHxF5
import Derived.Test.YtddolflgnfhfmaaGreatDoorYFU
import Derived.Test.YtddolflgnfhfmaaGreatDoorZH9b
import Derived.Test.YtddolflgnfhfmaaGreatDoorZHto
namespace Go.Proofs.YtddolflgnfhfmaaGreatDoor
open Go.RowKit
set_option linter.unusedVariables false
set_option linter.unusedSimpArgs false
set_option maxRecDepth 100000
def FixR (v : Int) (vv : Value) (ww : World) : Prop := ∃ q s1, vv = Pk.val q s1 ∧ q.At s1 ww ∧ Fine 40 q ∧ rightD v q = true ∧ (s1.ca = none → q.codes.length = 0 ∧ s1.cc = 0)
theorem fix7_full (v : Int) (p : Pk) (s : Sl) (w : World) (hv : v = 4 ∨ v = 5) (hp : p.At s w) (hY : Any p) :
  Calls Tryz.prog 15 #[.int .i64 v, p.val s] w fun e w' => ∃ vv, e = .returned vv ∧ FixR v vv w' ∧ Kept No w w' := by
 have key : ∀ e w', FixIs v w e w' → ∃ vv, e = .returned vv ∧ FixR v vv w' ∧ Kept No w w' := by
  rintro e w' ⟨q, s', rfl, hA, ⟨Q, rfl, hQ⟩, hc, hk⟩
  exact ⟨_, rfl, ⟨_, _, rfl, hA, hQ.fineQ.bare, hQ.right hv, hc⟩, hk⟩
 rcases hv with rfl | rfl
 ·exact (fix7_4 p s w hp hY).mono key
 ·exact (fix7_5 p s w hp hY).mono key
def TurnR (w0 wc : World) (vv : Value) (ww : World) : Prop := ∃ q s1, vv = Pk.val q s1 ∧ (∀ W9, Kept (fun k => w0.heap.size ≤ k ∧ k < wc.heap.size) ww W9 → q.At s1 W9) ∧ Fine 41 q ∧ (s1.ca = none → q.codes.length = 0 ∧ s1.cc = 0)
theorem turn_full (q : Pk) (s : Sl) (w0 w : World) (hp : q.At s w0) (hk0 : Kept No w0 w) (hcn : s.ca = none → q.codes.length = 0 ∧ s.cc = 0) (hF : Fine 40 q) (t : Int) (n : Nat) (hn : n < 256) :
  Calls Tryz.prog 19 #[q.val s, .int .i64 t, .int .u8 n] w fun e w' => ∃ vv, e = .returned vv ∧ TurnR w0 w vv w' ∧ Kept No w w' :=
 (turn_any q s w0 w hp hk0 hcn hF t n hn).mono fun e w' ⟨q2, s2, h1, h2, h3, h4, h5⟩ => ⟨_, h1, ⟨q2, s2, rfl, h2, h3, h4⟩, h5⟩
theorem ix_two (b i : Nat) (w : World) (h : i < 2) : (Instr.indexAt 22 (.pointer (some ⟨b, 0, none⟩)) (.int .i64 (i : Int))).run Tryz.prog w = .ok (.pointer (some ⟨b, i, none⟩)) w := by
 have u := Tryz.underlying22
 have u2 := Tryz.underlying3
 match i, h with
 | 0, _ => go_simp
 | 1, _ => go_simp
set_option maxHeartbeats 4000000 in
theorem packetFixes_walk (a t : Int) (p : Pk) (s : Sl) (n : Nat) (w : World) (hp : p.At s w) (hY : Any p) (hn : n < 256) (hT : Tabs w) (hN : NamesAt w) :
  Calls Tryz.prog 3 #[.agg #[.int .i64 a, .int .i64 t], p.val s, .int .u8 n] w fun e w' => e = .returned (.bool true) ∧ Below w.heap.size w w' := by
 obtain ⟨k, hkm, hk⟩ := kind_mod a 2 (by decide) (by decide)
 let RR : Ending → World → Prop := fun e w' => e = .returned (.bool true) ∧ Below w.heap.size w w'
 go_enter Tryz.func3, Tryz.ntmps3
 generalize hA : ({ tmps := _, defers := [] } : Act) = A
 have F : Fr A 56 [(2, (.int .u8 ((n : Int)))), (1, (Pk.val p s)), (0, (.agg #[(.int .i64 a), (.int .i64 t)]))] := by rw [← hA]; exact (Fr.cons (i := 2) (v := (.int .u8 ((n : Int)))) (Fr.cons (i := 1) (v := (Pk.val p s)) (Fr.cons (i := 0) (v := (.agg #[(.int .i64 a), (.int .i64 t)])) (Fr.nil0 rfl rfl) rfl) rfl) rfl)
 clear hA; have H := Hp.start w
 refine wp_seq_k (fun K1 hK1 => gx_region ?_)
 refine hz_new (c := #[(.int .i64 a), (.int .i64 t)]) (t := 22) F H rfl (ex_box rfl (F.e rfl) (gx_box _ _)) ?_; clear F A; intro b2 W A hk hN H9 F; clear H; have H := H9; clear H9
 clear hk hN
 refine hz_new (c := (Pk.cells p s)) (t := 28) F H rfl (ex_box rfl (F.e rfl) (gx_box _ _)) ?_; clear F A; intro b3 W A hk hN H9 F; clear H; have H := H9; clear H9
 clear hk hN
 refine zd ?_; intro A F
 refine wpList_nil (hK1 _ _ ?_)
 refine wp_seq_k (fun K4 hK4 => ?_)
 refine wp_region_held_drew (S := fun wx => Hp _ wx _) (by kernel_rfl) H.drew (fun H9 => ?_); clear H; have H := H9; clear H9
 generalize World.drew _ = W at *
 refine hzh_do (i := 0) F rfl rfl (by kernel_rfl) (fun _ _ _ h => h) (H) (fun wz H => (ex_idxaddr rfl (F.e rfl) gx_evc (ix_two _ 0 _ (by decide)))) ?_; intro A F
 refine td 1 ?_; intro A F
 refine hzh_do (i := 2) F rfl rfl (by kernel_rfl) (fun _ _ _ h => h) (H) (fun wz H => (ex_idxaddr rfl (F.e rfl) gx_evc (ix_two _ 1 _ (by decide)))) ?_; intro A F
 refine td 3 ?_; intro A F
 refine td 4 ?_; intro A F
 refine td 5 ?_; intro A F
 refine wpAnyH_done (by kernel_rfl) ?_ _
 refine hK4 _ _ ?_
 refine wp_seq_k (fun K5 hK5 => gx_region ?_)
 refine zd ?_; intro A F
 refine hz_do F rfl (ex_conv rfl (F.e rfl) (cv_u64 _ _)) ?_; intro A F
 refine zb (rn_rem (by decide) hkm) ?_; intro A F
 refine hz_do F rfl (ex_conv rfl (F.e rfl) (cv_i64 _ _ (by omega))) ?_; intro A F
 refine hz_do F rfl (ex_bin rfl gx_evc (F.e rfl) (rn_add (gx_wrap_i64 (by omega) (by omega)))) ?_; intro A F
 refine zd ?_; intro A F
 refine wpList_nil (hK5 _ _ ?_)
 refine wp_seq_k (fun K6 hK6 => gx_region ?_)
 refine zd ?_; intro A F
 refine hz_do F rfl (ex_load rfl (F.e rfl) (gl_agg ((Pk.cells p s)) rfl (ga_28 _) (gs_28 _) (fun i => H.cs 0 rfl i))) ?_; intro A F
 refine hz_call (R := FixR (4 + ((k : Int)))) F H rfl (ex_call rfl rfl (gx_l1 (F.e rfl) (gx_l1 (F.e rfl) gx_l0)) fn_15) (fix7_full (4 + ((k : Int))) p s _ (by omega) (hp.kept H.k) hY) ?_; clear F H A; intro vv W A hR hk H F; obtain ⟨q7, s7, rfl, hA7, hF7, hR7, hC7⟩ := hR
 clear hk
 obtain ⟨w7, K7, hA7⟩ : ∃ w1, Kept No w1 W ∧ Pk.At q7 s7 w1 := ⟨W, Kept.refl No W, hA7⟩
 refine hz_new (c := zeroPk) (t := 28) F H rfl (ex_alloc rfl (al_28 _)) ?_; clear F A; intro b8 W A hk hN H9 F; clear H; have H := H9; clear H9
 have hN_K7_b8 := Nat.le_trans K7.size hN
 replace K7 := K7.trans hk
 clear hk hN
 obtain ⟨W9, hr, hB, hk⟩ := gx_storeAgg (P := Tryz.prog) (S := 28) (c := (Pk.cells q7 s7)) _ (H.b.at_ (j := 0) rfl).1 (gs_28 _) rfl (pk_one _ _)
 refine hz_st (ex_store rfl (F.e rfl) (F.e rfl) hr) ?_; clear hr; replace H : Hp _ _ [_, _, _] := Hp.turn [] H hk hB; replace K7 := K7.then hk (fun i9 hi9 e9 => by have e9 : i9 = b8 := e9; have := hN_K7_b8; omega); clear hk hB
 refine wpList_nil (hK6 _ _ ?_)
 refine wp_seq_k (fun K9 hK9 => ?_)
 refine wp_seq_k (fun K10 hK10 => gx_region ?_)
 refine hz_callk F H rfl (ex_call rfl rfl gx_l0 fn_16) (told7_any _ (hT.kept H.k) (hN.kept H.k)) ?_; clear F H A; intro W A hk H F
 replace K7 := K7.trans hk
 clear hk
 iterate 2 (refine zd ?_; intro A F)
 refine hz_do1 F rfl (hw_f (X := false) F rfl rfl rfl) (ex_move rfl (F.e rfl)) ?_; intro A F
 refine hz_do1 F rfl (hw_f (X := false) F rfl rfl rfl) (ex_load rfl (F.e rfl) (gl_agg ((Pk.cells q7 s7)) rfl (ga_28 _) (gs_28 _) (fun i => H.cs 0 rfl i))) ?_; intro A F
 refine hz_call1 (R := fun vv ww => ∃ s9, vv = Pk.val q7 s9 ∧ Pk.At q7 s9 ww ∧ (s9.ca = none → (Pk.codes q7).length = 0 ∧ s9.cc = 0)) F H rfl (hw_f (X := false) F rfl rfl rfl) (ex_call rfl rfl (gx_l1 (F.e rfl) gx_l0) fn_18) ((pkto2_any q7 s7 _ (hA7.kept K7) (hF7.fit (by decide)).few hC7).mono fun e9 ww ⟨s9, h91, h92, h93, h94⟩ => ⟨_, h91, ⟨s9, rfl, h92, h94⟩, h93⟩) ?_; clear F H A; intro vv W A hR hk H F; obtain ⟨t12, rfl, hA12, hC12⟩ := hR
 replace K7 := K7.trans hk
 clear hk
 obtain ⟨w12, K12, hA12⟩ : ∃ w1, Kept No w1 W ∧ Pk.At q7 t12 w1 := ⟨W, Kept.refl No W, hA12⟩
 refine hz_callk1 F H rfl (hw_f (X := false) F rfl rfl rfl) (ex_call rfl rfl (gx_l1 (F.e rfl) (gx_l1 (F.e rfl) gx_l0)) fn_17) (pkRight_any (4 + ((k : Int))) q7 t12 _ (hA12.kept K12) (hF7.fit (by decide)) (hT.kept H.k)) ?_; clear F H A; intro W A hk H F
 replace K7 := K7.trans hk
 replace K12 := K12.trans hk
 clear hk
 have hr14 : (rightP (4 + ((k : Int))) q7) = true := (by rw [right_eq (4 + ((k : Int))) q7 (hF7.fit (by decide)).opt (restN_small (hF7.small (by decide)))]; exact hR7)
 replace F := F.hd (congrArg Value.bool hr14)
 refine hz_do1 F rfl (hw_f (X := false) F rfl rfl rfl) (ex_not rfl (F.e rfl)) ?_; intro A F
 refine hz_do F rfl (ex_pickF rfl (F.e rfl) (F.e rfl)) ?_; intro A F
 refine wpList_nil (hK10 _ _ ?_)
 refine wp_cond_false (F.e rfl) ?_
 refine wp_skip (hK9 _ _ ?_)
 refine wp_seq_k (fun K15 hK15 => gx_region ?_)
 refine hz_do F rfl (ex_load rfl (F.e rfl) (gl_agg ((Pk.cells q7 s7)) rfl (ga_28 _) (gs_28 _) (fun i => H.cs 0 rfl i))) ?_; intro A F
 iterate 2 (refine zd ?_; intro A F)
 have hlt16 := (H.b.at_ (j := 0) rfl).1.lt
 refine hz_call (R := TurnR w7 W) F H rfl (ex_call rfl rfl (gx_l1 (F.e rfl) (gx_l1 (F.e rfl) (gx_l1 (F.e rfl) gx_l0))) fn_19) (turn_full q7 s7 w7 _ hA7 K7 hC7 hF7 t n hn) ?_; clear F H A; intro vv W A hR hk H F; obtain ⟨q16, s16, rfl, hA16, hF16, hC16⟩ := hR
 replace K7 := K7.trans hk
 clear hk
 obtain ⟨W9, hr, hB, hk⟩ := gx_storeAgg (P := Tryz.prog) (S := 28) (c := (Pk.cells q16 s16)) _ (H.b.at_ (j := 0) rfl).1 (gs_28 _) rfl (pk_one _ _)
 refine hz_st (ex_store rfl (F.e rfl) (F.e rfl) hr) ?_; clear hr; replace H : Hp _ _ [_, _, _] := Hp.turn [] H hk hB; replace K7 := K7.then hk (fun i9 hi9 e9 => by have e9 : i9 = b8 := e9; have := hN_K7_b8; omega); have hA16 := hA16 _ (hk.mono (fun i9 _ e9 => by have e9 : i9 = b8 := e9; rw [e9]; exact ⟨hN_K7_b8, hlt16⟩)); obtain ⟨w16, K16, hA16⟩ : ∃ w1, Kept No w1 _ ∧ Pk.At q16 s16 w1 := ⟨_, Kept.refl No _, hA16⟩; clear hk hB
 refine wpList_nil (hK15 _ _ ?_)
 refine wp_seq_k (fun K17 hK17 => ?_)
 refine wp_region_held_drew (S := fun wx => Hp _ wx _) (by kernel_rfl) H.drew (fun H9 => ?_); clear H; have H := H9; clear H9
 replace K7 := K7.trans (Kept.refl No _).drew
 replace K16 := K16.trans (Kept.refl No _).drew
 generalize World.drew _ = W at *
 refine td 0 ?_; intro A F
 refine hzh_do (i := 1) F rfl rfl (by kernel_rfl) (fun _ _ _ h => h) (H) (fun wz H => (ex_load rfl (F.e rfl) (gl_agg ((Pk.cells q16 s16)) rfl (ga_28 _) (gs_28 _) (fun i => H.cs 0 rfl i)))) ?_; intro A F
 refine td 4 ?_; intro A F
 refine hzh_do (i := 5) F rfl rfl (by kernel_rfl) (fun _ _ _ h => h) (H) (fun wz H => (ex_load rfl (F.e rfl) (gl_agg ((Pk.cells q16 s16)) rfl (ga_28 _) (gs_28 _) (fun i => H.cs 0 rfl i)))) ?_; intro A F
 refine hb_one (i := 2) (by kernel_rfl) (hb_call (i := 2) (R := fun vv ww => ∃ s9, vv = Pk.val q16 s9 ∧ Pk.At q16 s9 ww ∧ (s9.ca = none → (Pk.codes q16).length = 0 ∧ s9.cc = 0)) F rfl rfl (ex_call rfl rfl (gx_l1 (F.e rfl) gx_l0) fn_18) ((pkto2_any q16 s16 _ (hA16.kept K16) (hF16.fit (by decide)).few hC16).mono fun e9 ww ⟨s9, h91, h92, h93, h94⟩ => ⟨_, h91, ⟨s9, rfl, h92, h94⟩, h93⟩) (fun _ hk => (H.kept hk)) ?_); clear F A; intro vv W A hR hk _ F; replace H := H.kept hk; obtain ⟨t18, rfl, hA18, hC18⟩ := hR
 replace K7 := K7.trans hk
 replace K16 := K16.trans hk
 clear hk
 obtain ⟨w18, K18, hA18⟩ : ∃ w1, Kept No w1 W ∧ Pk.At q16 t18 w1 := ⟨W, Kept.refl No W, hA18⟩
 refine hb_one (i := 3) (by kernel_rfl) (hb_callk (i := 3) F rfl rfl (ex_call rfl rfl (gx_l1 (F.e rfl) (gx_l1 (F.e rfl) gx_l0)) fn_17) (pkRight_any (4 + ((k : Int))) q16 t18 _ (hA18.kept K18) (hF16.fit (by decide)) (hT.kept H.k)) (fun _ hk => (H.kept hk)) ?_); clear F A; intro W A hk _ F; replace H := H.kept hk
 replace K7 := K7.trans hk
 replace K16 := K16.trans hk
 replace K18 := K18.trans hk
 clear hk
 refine hb_one (i := 6) (by kernel_rfl) (hb_callk (i := 6) F rfl rfl (ex_call rfl rfl (gx_l1 (F.e rfl) (gx_l1 (F.e rfl) gx_l0)) fn_20) (rpkRight_any (4 + ((k : Int))) q16 s16 _ (hA16.kept K16) (hF16.fit (by decide)) hC16) (fun _ hk => (H.kept hk)) ?_); clear F A; intro W A hk _ F; replace H := H.kept hk
 replace K7 := K7.trans hk
 replace K16 := K16.trans hk
 replace K18 := K18.trans hk
 clear hk
 refine hzh_do (i := 7) F rfl rfl (by kernel_rfl) (fun _ _ _ h => h) (H) (fun wz H => (ex_bin rfl (F.e rfl) (F.e rfl) (rn_beql Tryz.underlying4))) ?_; intro A F
 have hr21 : ((rightP (4 + ((k : Int))) q16) == (rightD (4 + ((k : Int))) q16)) = true := (by rw [right_eq (4 + ((k : Int))) q16 (hF16.fit (by decide)).opt (restN_small (hF16.small (by decide)))]; simp)
 replace F := F.hd (congrArg Value.bool hr21)
 refine td 8 ?_; intro A F
 refine hzh_do1 (i := 9) F rfl rfl (by kernel_rfl) (fun _ _ _ h => h) (H) (hw_t F rfl rfl rfl) (fun wz H => (ex_move rfl (F.e rfl))) ?_; intro A F
 refine hzh_do1 (i := 10) F rfl rfl (by kernel_rfl) (fun _ _ _ h => h) (H) (hw_t F rfl rfl rfl) (fun wz H => (ex_bin rfl gx_evc (F.e rfl) (rn_sub (gx_wrap_i64 (by omega) (by omega))))) ?_; intro A F
 refine hzh_do1 (i := 11) F rfl rfl (by kernel_rfl) (fun _ _ _ h => h) (H) (hw_t F rfl rfl rfl) (fun wz H => (ex_load rfl (F.e rfl) (gl_agg ((Pk.cells q16 s16)) rfl (ga_28 _) (gs_28 _) (fun i => H.cs 0 rfl i)))) ?_; intro A F
 refine hzh_do1 (i := 14) F rfl rfl (by kernel_rfl) (fun _ _ _ h => h) (H) (hw_t F rfl rfl rfl) (fun wz H => (ex_move rfl (F.e rfl))) ?_; intro A F
 refine hzh_do1 (i := 15) F rfl rfl (by kernel_rfl) (fun _ _ _ h => h) (H) (hw_t F rfl rfl rfl) (fun wz H => (ex_bin rfl gx_evc (F.e rfl) (rn_sub (gx_wrap_i64 (by omega) (by omega))))) ?_; intro A F
 refine hzh_do1 (i := 16) F rfl rfl (by kernel_rfl) (fun _ _ _ h => h) (H) (hw_t F rfl rfl rfl) (fun wz H => (ex_load rfl (F.e rfl) (gl_agg ((Pk.cells q16 s16)) rfl (ga_28 _) (gs_28 _) (fun i => H.cs 0 rfl i)))) ?_; intro A F
 refine hzh_call1 (i := 12) (R := fun vv ww => ∃ s9, vv = Pk.val q16 s9 ∧ Pk.At q16 s9 ww ∧ (s9.ca = none → (Pk.codes q16).length = 0 ∧ s9.cc = 0)) F rfl rfl (by kernel_rfl) (hw_t F rfl rfl rfl) (ex_call rfl rfl (gx_l1 (F.e rfl) gx_l0) fn_18) ((pkto2_any q16 s16 _ (hA16.kept K16) (hF16.fit (by decide)).few hC16).mono fun e9 ww ⟨s9, h91, h92, h93, h94⟩ => ⟨_, h91, ⟨s9, rfl, h92, h94⟩, h93⟩) (fun _ hk => H.kept hk) ?_; clear F H A; intro vv W A hR hk H F; obtain ⟨t22, rfl, hA22, hC22⟩ := hR
 replace K7 := K7.trans hk
 replace K16 := K16.trans hk
 replace K18 := K18.trans hk
 clear hk
 obtain ⟨w22, K22, hA22⟩ : ∃ w1, Kept No w1 W ∧ Pk.At q16 t22 w1 := ⟨W, Kept.refl No W, hA22⟩
 refine hzh_callk1 (i := 13) F rfl rfl (by kernel_rfl) (hw_t F rfl rfl rfl) (ex_call rfl rfl (gx_l1 (F.e rfl) (gx_l1 (F.e rfl) gx_l0)) fn_17) (pkRight_any (9 - (4 + ((k : Int)))) q16 t22 _ (hA22.kept K22) (hF16.fit (by decide)) (hT.kept H.k)) (fun _ hk => H.kept hk) ?_; clear F H A; intro W A hk H F
 replace K7 := K7.trans hk
 replace K16 := K16.trans hk
 replace K18 := K18.trans hk
 replace K22 := K22.trans hk
 clear hk
 refine hzh_callk1 (i := 17) F rfl rfl (by kernel_rfl) (hw_t F rfl rfl rfl) (ex_call rfl rfl (gx_l1 (F.e rfl) (gx_l1 (F.e rfl) gx_l0)) fn_20) (rpkRight_any (9 - (4 + ((k : Int)))) q16 s16 _ (hA16.kept K16) (hF16.fit (by decide)) hC16) (fun _ hk => H.kept hk) ?_; clear F H A; intro W A hk H F
 replace K7 := K7.trans hk
 replace K16 := K16.trans hk
 replace K18 := K18.trans hk
 replace K22 := K22.trans hk
 clear hk
 refine hzh_do1 (i := 18) F rfl rfl (by kernel_rfl) (fun _ _ _ h => h) (H) (hw_t F rfl rfl rfl) (fun wz H => (ex_bin rfl (F.e rfl) (F.e rfl) (rn_beql Tryz.underlying4))) ?_; intro A F
 have hr25 : ((rightP (9 - (4 + ((k : Int)))) q16) == (rightD (9 - (4 + ((k : Int)))) q16)) = true := (by rw [right_eq (9 - (4 + ((k : Int)))) q16 (hF16.fit (by decide)).opt (restN_small (hF16.small (by decide)))]; simp)
 replace F := F.hd (congrArg Value.bool hr25)
 refine hzh_do (i := 19) F rfl rfl (by kernel_rfl) (fun _ _ _ h => h) (H) (fun wz H => (ex_pickT rfl (F.e rfl) (F.e rfl))) ?_; intro A F
 refine td 20 ?_; intro A F
 refine wpAnyH_done (by kernel_rfl) ?_ _
 refine hK17 _ _ ?_
 refine gx_ret ?_
 refine (show bodyPost _ Tryz.f3 RR Exit.ret _ _ from zr ?_)
 exact ⟨by first | rfl | simp, H.k.below (Nat.le_refl _) (fun _ _ f9 => f9)⟩
theorem packetFixes_full (a t : Int) (p : Pk) (s : Sl) (n : Int) (w : World) (wa : (Lit.int .i64 a).wf = true) (wb : (Lit.int .i64 t).wf = true) (w1 : IsPk w p s) (r1 : Reach p) (wn : (Lit.int .u8 n).wf = true) (hT : Tabs w) (hN : NamesAt w) :
  Calls Tryz.prog 3 #[.agg #[.int .i64 a, .int .i64 t], p.val s, .int .u8 n] w fun e w' => e = .returned (.bool true) ∧ Below w.heap.size w w' := by
 have b := bounds_u8 wn
 obtain ⟨m, rfl⟩ := Int.eq_ofNat_of_zero_le b.1
 exact packetFixes_walk a t p s m w w1.at (w1.any r1) (by omega) hT hN
end Go.Proofs.YtddolflgnfhfmaaGreatDoor
