import Derived.Test.YtomppebamfpimaaGreatDoorYFW
import Derived.Test.YtomppebamfpimaaGreatDoorYFX
import Derived.Test.YtomppebamfpimaaGreatDoorYFY
namespace Go.Proofs.YtomppebamfpimaaGreatDoor
open Go.RowKit
set_option linter.unusedVariables false
set_option linter.unusedSimpArgs false
set_option maxRecDepth 100000
set_option maxHeartbeats 8000000 in
theorem encodePackets_walk (v : Int) (p : Pk) (s : Sl) (w : World) (hp : p.At s w) (hR : Reach p) (hFit : Small p → Fit p) (hcn : s.ca = none → p.codes.length = 0 ∧ s.cc = 0) (hT : Tabs w) :
  Calls Tryz.prog 3 #[.int .i64 v, p.val s] w fun e w' => e = .returned (.bool true) ∧ Below w.heap.size w w' := by
 let RR : Ending → World → Prop := fun e w' => e = .returned (.bool true) ∧ Below w.heap.size w w'
 go_enter Tryz.func3, Tryz.ntmps3
 generalize hA : ({ tmps := _, defers := [] } : Act) = A
 have F : Fr A 67 [(1, (Pk.val p s)), (0, (.int .i64 v))] := by rw [← hA]; exact (Fr.cons (i := 1) (v := (Pk.val p s)) (Fr.cons (i := 0) (v := (.int .i64 v)) (Fr.nil0 rfl rfl) rfl) rfl)
 clear hA; have H := Hp.start w
 refine wp_seq_k (fun K1 hK1 => gx_region ?_)
 refine hz_new (c := (Pk.cells p s)) (t := 27) F H rfl (ex_box rfl (F.e rfl) (gx_box _ _)) ?_; clear F A; intro b2 W A hk hN H9 F; clear H; have H := H9; clear H9
 clear hk hN
 refine zd ?_; intro A F
 refine wpList_nil (hK1 _ _ ?_)
 refine wp_seq_k (fun K3 hK3 => ?_)
 refine wp_seq_k (fun K4 hK4 => gx_region ?_)
 refine hz_do F rfl (ex_load rfl (F.e rfl) (gl_agg ((Pk.cells p s)) rfl (ga_27 _) (gs_27 _) (fun i => H.cs 0 rfl i))) ?_; intro A F
 refine hz_call (R := fun vv ww => ∃ b9, vv = .bool b9 ∧ (b9 = true → Small p)) F H rfl (ex_call rfl rfl (gx_l1 (F.e rfl) gx_l0) fn_15) ((few_any p s _ (hp.kept H.k) hR).mono fun e9 ww ⟨b9, h91, h92, h93⟩ => ⟨_, h91, ⟨b9, rfl, h92⟩, h93⟩) ?_; clear F H A; intro vv W A hR hk H F; obtain ⟨bP, rfl, hsP⟩ := hR
 clear hk
 refine zd ?_; intro A F
 refine wpList_nil (hK4 _ _ ?_)
 refine zc (fun hb6 => ?_) (fun hb6 => ?_)
 ·skip
  refine wp_seq_k (fun K7 hK7 => gx_region ?_)
  refine hz_callk F H rfl (ex_call rfl rfl gx_l0 fn_16) (told8_any _ (hT.kept H.k)) ?_; clear F H A; intro W A hk H F
  clear hk
  refine zd ?_; intro A F
  refine wpList_nil (hK7 _ _ ?_)
  refine gx_ret ?_
  refine (show bodyPost _ Tryz.f3 RR Exit.ret _ _ from zr ?_)
  exact ⟨by first | rfl | simp, H.k.below (Nat.le_refl _) (fun _ _ f9 => f9)⟩
 refine wp_skip (hK3 _ _ ?_)
 refine wp_seq_k (fun K9 hK9 => ?_)
 have hbF : bP = true := by have h6 := hb6; revert h6; cases bP <;> simp
 refine gx_region ?_
 refine hz_do F rfl (ex_load rfl (F.e rfl) (gl_agg ((Pk.cells p s)) rfl (ga_27 _) (gs_27 _) (fun i => H.cs 0 rfl i))) ?_; intro A F
 refine hz_call (R := fun vv ww => ∃ s9, vv = Pk.val p s9 ∧ Pk.At p s9 ww ∧ (s9.ca = none → p.codes.length = 0 ∧ s9.cc = 0)) F H rfl (ex_call rfl rfl (gx_l1 (F.e rfl) gx_l0) fn_17) ((pkto2_any p s _ (hp.kept H.k) (hsP hbF).few hcn).mono fun e9 ww ⟨s9, h91, h92, h93, h94⟩ => ⟨_, h91, ⟨s9, rfl, h92, h94⟩, h93⟩) ?_; clear F H A; intro vv W A hR hk H F; obtain ⟨t10, rfl, hA10, hCt10⟩ := hR
 clear hk
 obtain ⟨w10, K10, hA10⟩ : ∃ w1, Kept No w1 W ∧ Pk.At p t10 w1 := ⟨W, Kept.refl No W, hA10⟩
 refine hz_new (c := zeroPk) (t := 33) F H rfl (ex_alloc rfl (al_33 _)) ?_; clear F A; intro b11 W A hk hN H9 F; clear H; have H := H9; clear H9
 have hN_K10_b11 := Nat.le_trans K10.size hN
 replace K10 := K10.trans hk
 clear hk hN
 obtain ⟨W9, hr, hB, hk⟩ := gx_storeAgg (P := Tryz.prog) (S := 33) (c := (Pk.cells p t10)) _ (H.b.at_ (j := 0) rfl).1 (gs_33 _) rfl (pk_one _ _)
 refine hz_st (ex_store rfl (F.e rfl) (F.e rfl) hr) ?_; clear hr; replace H : Hp _ _ [_, _] := Hp.turn [] H hk hB; replace K10 := K10.then hk (fun i9 hi9 e9 => by have e9 : i9 = b11 := e9; have := hN_K10_b11; omega); clear hk hB
 refine wpList_nil (hK9 _ _ ?_)
 refine wp_seq_k (fun K12 hK12 => gx_region ?_)
 refine zd ?_; intro A F
 refine hz_do F rfl (ex_load rfl (F.e rfl) (gl_agg ((Pk.cells p t10)) rfl (ga_33 _) (gs_33 _) (fun i => H.cs 0 rfl i))) ?_; intro A F
 refine hz_call (R := EncA v p) F H rfl (ex_call rfl rfl (gx_l1 (F.e rfl) (gx_l1 (F.e rfl) gx_l0)) fn_18) (encA (encode_any v p t10 _ (hA10.kept K10) (hFit (hsP hbF)) (hT.kept H.k) (fun h => (hCt10 h).2))) ?_; clear F H A; intro vv W A hR hk H F; obtain ⟨ae13, ce13, rfl, hRE13, hNE13⟩ := hR
 replace K10 := K10.trans hk
 clear hk
 obtain ⟨wE13, KE13, hRE13⟩ : ∃ w1, Kept No w1 W ∧ Row w1 ae13 (B8 (encL v p)) := ⟨W, Kept.refl No W, hRE13⟩
 iterate 5 (refine zd ?_; intro A F)
 refine wpList_nil (hK12 _ _ ?_)
 refine wp_seq_k (fun K14 hK14 => gx_region ?_)
 refine zd ?_; intro A F
 refine hz_do F rfl (ex_load rfl (F.e rfl) (gl_agg ((Pk.cells p s)) rfl (ga_27 _) (gs_27 _) (fun i => H.cs 1 rfl i))) ?_; intro A F
 refine hz_call (R := EncA v p) F H rfl (ex_call rfl rfl (gx_l1 (F.e rfl) (gx_l1 (F.e rfl) gx_l0)) fn_19) (encA (rencode8_any v p s _ (hp.kept H.k) (hFit (hsP hbF)) (hsP hbF) hcn)) ?_; clear F H A; intro vv W A hR hk H F; obtain ⟨ae15, ce15, rfl, hRE15, hNE15⟩ := hR
 replace K10 := K10.trans hk
 replace KE13 := KE13.trans hk
 clear hk
 obtain ⟨wE15, KE15, hRE15⟩ : ∃ w1, Kept No w1 W ∧ Row w1 ae15 (B8 (encL v p)) := ⟨W, Kept.refl No W, hRE15⟩
 iterate 5 (refine zd ?_; intro A F)
 refine wpList_nil (hK14 _ _ ?_)
 refine wp_seq_k (fun K16 hK16 => ?_)
 rcases hrB : rightP v p with _ | _
 ·skip
  have he0 : decide (eN v p = 0) = false := by unfold eN; rw [hrB] <;> rfl
  refine wp_region_held_drew (S := fun wx => Hp _ wx _) (by kernel_rfl) H.drew (fun H9 => ?_); clear H; have H := H9; clear H9
  replace K10 := K10.trans (Kept.refl No _).drew
  replace KE13 := KE13.trans (Kept.refl No _).drew
  replace KE15 := KE15.trans (Kept.refl No _).drew
  generalize World.drew _ = W at *
  refine hb_one (i := 0) (by kernel_rfl) (hb_callk (i := 0) F rfl rfl (ex_call rfl rfl gx_l0 fn_16) (told8_any _ (hT.kept H.k)) (fun _ hk => (H.kept hk)) ?_); clear F A; intro W A hk _ F; replace H := H.kept hk
  replace K10 := K10.trans hk
  replace KE13 := KE13.trans hk
  replace KE15 := KE15.trans hk
  clear hk
  refine td 1 ?_; intro A F
  refine hzh_do1 (i := 2) F rfl rfl (by kernel_rfl) (fun _ _ _ h => h) (H) (hw_t F rfl rfl rfl) (fun wz H => (ex_move rfl (F.e rfl))) ?_; intro A F
  refine hzh_do1 (i := 3) F rfl rfl (by kernel_rfl) (fun _ _ _ h => h) (H) (hw_t F rfl rfl rfl) (fun wz H => (ex_move rfl (F.e rfl))) ?_; intro A F
  refine hzh_do1 (i := 4) F rfl rfl (by kernel_rfl) (fun _ _ _ h => h) (H) (hw_t F rfl rfl rfl) (fun wz H => (ex_bin rfl (F.e rfl) (F.e rfl) (rn_eqlN (i := eN v p) (j := eN v p)))) ?_; intro A F
  have hr18 : (decide (eN v p = eN v p)) = true := (by simp)
  replace F := F.hd (congrArg Value.bool hr18)
  refine hzh_do (i := 5) F rfl rfl (by kernel_rfl) (fun _ _ _ h => h) (H) (fun wz H => (ex_pickT rfl (F.e rfl) (F.e rfl))) ?_; intro A F
  refine td 6 ?_; intro A F
  refine hzh_do1 (i := 7) F rfl rfl (by kernel_rfl) (fun _ _ _ h => h) (H) (hw_t F rfl rfl rfl) (fun wz H => (ex_move rfl (F.e rfl))) ?_; intro A F
  refine hzh_do1 (i := 9) F rfl rfl (by kernel_rfl) (fun _ _ _ h => h) (H) (hw_t F rfl rfl rfl) (fun wz H => (ex_move rfl (F.e rfl))) ?_; intro A F
  refine hb_two (i := 8) (j := 10) (by kernel_rfl) ?_ ?_
  ·skip
   refine hb_new1 (v := (.string ((⟨(encL v p).toArray⟩ : ByteArray)))) (i := 8) F rfl rfl (hw_t F rfl rfl rfl) (ex_conv rfl (F.e rfl) (str8 (hRE13.keptNo KE13) hNE13)) (H) ?_; intro A F
   refine hb_one (i := 10) (by kernel_rfl) (hb_new1 (v := (.string ((⟨(encL v p).toArray⟩ : ByteArray)))) (i := 10) F rfl rfl (hw_t F rfl rfl rfl) (ex_conv rfl (F.e rfl) (str8 (hRE15.keptNo KE15) hNE15)) (H) ?_); intro A F
   refine hzh_do1 (i := 11) F rfl rfl (by kernel_rfl) (fun _ _ _ h => h) (H) (hw_t F rfl rfl rfl) (fun wz H => (ex_bin rfl (F.e rfl) (F.e rfl) (rn_seql))) ?_; intro A F
   have hr19 : (decide ((⟨(encL v p).toArray⟩ : ByteArray) = (⟨(encL v p).toArray⟩ : ByteArray))) = true := (by simp)
   replace F := F.hd (congrArg Value.bool hr19)
   refine hzh_do (i := 12) F rfl rfl (by kernel_rfl) (fun _ _ _ h => h) (H) (fun wz H => (ex_pickT rfl (F.e rfl) (F.e rfl))) ?_; intro A F
   refine td 13 ?_; intro A F
   refine hzh_do1 (i := 14) F rfl rfl (by kernel_rfl) (fun _ _ _ h => h) (H) (hw_t F rfl rfl rfl) (fun wz H => (ex_move rfl (F.e rfl))) ?_; intro A F
   refine hzh_do1 (i := 15) F rfl rfl (by kernel_rfl) (fun _ _ _ h => h) (H) (hw_t F rfl rfl rfl) (fun wz H => (ex_load rfl (F.e rfl) (gl_agg ((Pk.cells p t10)) rfl (ga_33 _) (gs_33 _) (fun i => H.cs 0 rfl i)))) ?_; intro A F
   refine hzh_do1 (i := 17) F rfl rfl (by kernel_rfl) (fun _ _ _ h => h) (H) (hw_t F rfl rfl rfl) (fun wz H => (ex_move rfl (F.e rfl))) ?_; intro A F
   refine hzh_do1 (i := 18) F rfl rfl (by kernel_rfl) (fun _ _ _ h => h) (H) (hw_t F rfl rfl rfl) (fun wz H => (ex_len rfl (gx_l1 (F.e rfl) gx_l0) (rn_lens Tryz.underlying25))) ?_; intro A F
   refine hzh_callk1 (i := 16) F rfl rfl (by kernel_rfl) (hw_t F rfl rfl rfl) (ex_call rfl rfl (gx_l1 (F.e rfl) (gx_l1 (F.e rfl) gx_l0)) fn_20) (size_any8 v p t10 _ (hA10.kept K10) (hFit (hsP hbF)) (hT.kept H.k)) (fun _ hk => H.kept hk) ?_; clear F H A; intro W A hk H F
   replace K10 := K10.trans hk
   replace KE13 := KE13.trans hk
   replace KE15 := KE15.trans hk
   clear hk
   refine hzh_do1 (i := 19) F rfl rfl (by kernel_rfl) (fun _ _ _ h => h) (H) (hw_t F rfl rfl rfl) (fun wz H => (ex_bin rfl (F.e rfl) (F.e rfl) (rn_eqlN (i := sizeN v p) (j := ((encL v p).length))))) ?_; intro A F
   have hr21 : (decide (sizeN v p = ((encL v p).length))) = true := (decide_eq_true (size_len (hFit (hsP hbF)).wf))
   replace F := F.hd (congrArg Value.bool hr21)
   refine hzh_do (i := 20) F rfl rfl (by kernel_rfl) (fun _ _ _ h => h) (H) (fun wz H => (ex_pickT rfl (F.e rfl) (F.e rfl))) ?_; intro A F
   refine td 21 ?_; intro A F
   refine hzh_do1 (i := 22) F rfl rfl (by kernel_rfl) (fun _ _ _ h => h) (H) (hw_t F rfl rfl rfl) (fun wz H => (ex_move rfl (F.e rfl))) ?_; intro A F
   refine hzh_do1 (i := 23) F rfl rfl (by kernel_rfl) (fun _ _ _ h => h) (H) (hw_t F rfl rfl rfl) (fun wz H => (ex_bin rfl (F.e rfl) gx_evc (rn_neqN (i := eN v p) (j := 0)))) ?_; intro A F
   replace F := F.hd (congrArg Value.bool (by rw [he0] <;> rfl))
   refine hzh_do1 (i := 24) F rfl rfl (by kernel_rfl) (fun _ _ _ h => h) (H) (hw_t F rfl rfl rfl) (fun wz H => (ex_move rfl (F.e rfl))) ?_; intro A F
   refine hzh_no (i := 25) F rfl rfl (by kernel_rfl) (fun _ _ _ h => h) (H) (hw_f (X := true) F rfl rfl rfl) ?_; intro A F
   refine hzh_no (i := 26) F rfl rfl (by kernel_rfl) (fun _ _ _ h => h) (H) (hw_f (X := true) F rfl rfl rfl) ?_; intro A F
   refine hzh_no (i := 27) F rfl rfl (by kernel_rfl) (fun _ _ _ h => h) (H) (hw_f (X := true) F rfl rfl rfl) ?_; intro A F
   refine hzh_no (i := 28) F rfl rfl (by kernel_rfl) (fun _ _ _ h => h) (H) (hw_f (X := true) F rfl rfl rfl) ?_; intro A F
   refine hzh_no (i := 29) F rfl rfl (by kernel_rfl) (fun _ _ _ h => h) (H) (hw_f (X := true) F rfl rfl rfl) ?_; intro A F
   refine hzh_no (i := 30) F rfl rfl (by kernel_rfl) (fun _ _ _ h => h) (H) (hw_f (X := true) F rfl rfl rfl) ?_; intro A F
   refine hzh_do1 (i := 31) F rfl rfl (by kernel_rfl) (fun _ _ _ h => h) (H) (hw_t F rfl rfl rfl) (fun wz H => (ex_pickT rfl (F.e rfl) gx_evc)) ?_; intro A F
   refine hzh_do (i := 32) F rfl rfl (by kernel_rfl) (fun _ _ _ h => h) (H) (fun wz H => (ex_pickT rfl (F.e rfl) (F.e rfl))) ?_; intro A F
   refine td 33 ?_; intro A F
   refine hzh_do1 (i := 34) F rfl rfl (by kernel_rfl) (fun _ _ _ h => h) (H) (hw_t F rfl rfl rfl) (fun wz H => (ex_load rfl (F.e rfl) (gl_agg ((Pk.cells p t10)) rfl (ga_33 _) (gs_33 _) (fun i => H.cs 0 rfl i)))) ?_; intro A F
   refine hzh_do1 (i := 36) F rfl rfl (by kernel_rfl) (fun _ _ _ h => h) (H) (hw_t F rfl rfl rfl) (fun wz H => (ex_load rfl (F.e rfl) (gl_agg ((Pk.cells p s)) rfl (ga_27 _) (gs_27 _) (fun i => H.cs 1 rfl i)))) ?_; intro A F
   refine hzh_call1 (i := 35) (R := fun vv ww => ∃ s9, vv = Pk.val p s9 ∧ Pk.At p s9 ww ∧ (s9.ca = none → p.codes.length = 0 ∧ s9.cc = 0)) F rfl rfl (by kernel_rfl) (hw_t F rfl rfl rfl) (ex_call rfl rfl (gx_l1 (F.e rfl) gx_l0) fn_24) ((pkfrom_any p t10 _ (hA10.kept K10) (hsP hbF).few hCt10).mono fun e9 ww ⟨s9, h91, h92, h93, h94⟩ => ⟨_, h91, ⟨s9, rfl, h92, h94⟩, h93⟩) (fun _ hk => H.kept hk) ?_; clear F H A; intro vv W A hR hk H F; obtain ⟨t22, rfl, hA22, hCt22⟩ := hR
   replace K10 := K10.trans hk
   replace KE13 := KE13.trans hk
   replace KE15 := KE15.trans hk
   clear hk
   obtain ⟨w22, K22, hA22⟩ : ∃ w1, Kept No w1 W ∧ Pk.At p t22 w1 := ⟨W, Kept.refl No W, hA22⟩
   refine hzh_callk1 (i := 37) F rfl rfl (by kernel_rfl) (hw_t F rfl rfl rfl) (ex_call rfl rfl (gx_l1 (F.e rfl) (gx_l1 (F.e rfl) gx_l0)) fn_23) (rpksame2_any p p t22 s _ (hA22.kept K22) (hp.kept H.k) (hsP hbF).few (hsP hbF).few ⟨fun h => (hCt22 h).2⟩ ⟨fun h => (hcn h).2⟩) (fun _ hk => H.kept hk) ?_; clear F H A; intro W A hk H F
   replace K10 := K10.trans hk
   replace KE13 := KE13.trans hk
   replace KE15 := KE15.trans hk
   replace K22 := K22.trans hk
   clear hk
   have hr24 : (decide (p = p)) = true := (by simp)
   replace F := F.hd (congrArg Value.bool hr24)
   refine hzh_do (i := 38) F rfl rfl (by kernel_rfl) (fun _ _ _ h => h) (H) (fun wz H => (ex_pickT rfl (F.e rfl) (F.e rfl))) ?_; intro A F
   refine td 39 ?_; intro A F
   refine wpAnyH_done (by kernel_rfl) ?_ _
   refine hK16 _ _ ?_
   refine gx_ret ?_
   refine (show bodyPost _ Tryz.f3 RR Exit.ret _ _ from zr ?_)
   exact ⟨by first | rfl | simp [he0, size_len (hFit (hsP hbF)).wf], H.k.below (Nat.le_refl _) (fun _ _ f9 => f9)⟩
  ·skip
   refine hb_new1 (v := (.string ((⟨(encL v p).toArray⟩ : ByteArray)))) (i := 10) F rfl rfl (hw_t F rfl rfl rfl) (ex_conv rfl (F.e rfl) (str8 (hRE15.keptNo KE15) hNE15)) (H) ?_; intro A F
   refine hb_one (i := 8) (by kernel_rfl) (hb_new1 (v := (.string ((⟨(encL v p).toArray⟩ : ByteArray)))) (i := 8) F rfl rfl (hw_t F rfl rfl rfl) (ex_conv rfl (F.e rfl) (str8 (hRE13.keptNo KE13) hNE13)) (H) ?_); intro A F
   refine hzh_do1 (i := 11) F rfl rfl (by kernel_rfl) (fun _ _ _ h => h) (H) (hw_t F rfl rfl rfl) (fun wz H => (ex_bin rfl (F.e rfl) (F.e rfl) (rn_seql))) ?_; intro A F
   have hr25 : (decide ((⟨(encL v p).toArray⟩ : ByteArray) = (⟨(encL v p).toArray⟩ : ByteArray))) = true := (by simp)
   replace F := F.hd (congrArg Value.bool hr25)
   refine hzh_do (i := 12) F rfl rfl (by kernel_rfl) (fun _ _ _ h => h) (H) (fun wz H => (ex_pickT rfl (F.e rfl) (F.e rfl))) ?_; intro A F
   refine td 13 ?_; intro A F
   refine hzh_do1 (i := 14) F rfl rfl (by kernel_rfl) (fun _ _ _ h => h) (H) (hw_t F rfl rfl rfl) (fun wz H => (ex_move rfl (F.e rfl))) ?_; intro A F
   refine hzh_do1 (i := 15) F rfl rfl (by kernel_rfl) (fun _ _ _ h => h) (H) (hw_t F rfl rfl rfl) (fun wz H => (ex_load rfl (F.e rfl) (gl_agg ((Pk.cells p t10)) rfl (ga_33 _) (gs_33 _) (fun i => H.cs 0 rfl i)))) ?_; intro A F
   refine hzh_do1 (i := 17) F rfl rfl (by kernel_rfl) (fun _ _ _ h => h) (H) (hw_t F rfl rfl rfl) (fun wz H => (ex_move rfl (F.e rfl))) ?_; intro A F
   refine hzh_do1 (i := 18) F rfl rfl (by kernel_rfl) (fun _ _ _ h => h) (H) (hw_t F rfl rfl rfl) (fun wz H => (ex_len rfl (gx_l1 (F.e rfl) gx_l0) (rn_lens Tryz.underlying25))) ?_; intro A F
   refine hzh_callk1 (i := 16) F rfl rfl (by kernel_rfl) (hw_t F rfl rfl rfl) (ex_call rfl rfl (gx_l1 (F.e rfl) (gx_l1 (F.e rfl) gx_l0)) fn_20) (size_any8 v p t10 _ (hA10.kept K10) (hFit (hsP hbF)) (hT.kept H.k)) (fun _ hk => H.kept hk) ?_; clear F H A; intro W A hk H F
   replace K10 := K10.trans hk
   replace KE13 := KE13.trans hk
   replace KE15 := KE15.trans hk
   clear hk
   refine hzh_do1 (i := 19) F rfl rfl (by kernel_rfl) (fun _ _ _ h => h) (H) (hw_t F rfl rfl rfl) (fun wz H => (ex_bin rfl (F.e rfl) (F.e rfl) (rn_eqlN (i := sizeN v p) (j := ((encL v p).length))))) ?_; intro A F
   have hr27 : (decide (sizeN v p = ((encL v p).length))) = true := (decide_eq_true (size_len (hFit (hsP hbF)).wf))
   replace F := F.hd (congrArg Value.bool hr27)
   refine hzh_do (i := 20) F rfl rfl (by kernel_rfl) (fun _ _ _ h => h) (H) (fun wz H => (ex_pickT rfl (F.e rfl) (F.e rfl))) ?_; intro A F
   refine td 21 ?_; intro A F
   refine hzh_do1 (i := 22) F rfl rfl (by kernel_rfl) (fun _ _ _ h => h) (H) (hw_t F rfl rfl rfl) (fun wz H => (ex_move rfl (F.e rfl))) ?_; intro A F
   refine hzh_do1 (i := 23) F rfl rfl (by kernel_rfl) (fun _ _ _ h => h) (H) (hw_t F rfl rfl rfl) (fun wz H => (ex_bin rfl (F.e rfl) gx_evc (rn_neqN (i := eN v p) (j := 0)))) ?_; intro A F
   replace F := F.hd (congrArg Value.bool (by rw [he0] <;> rfl))
   refine hzh_do1 (i := 24) F rfl rfl (by kernel_rfl) (fun _ _ _ h => h) (H) (hw_t F rfl rfl rfl) (fun wz H => (ex_move rfl (F.e rfl))) ?_; intro A F
   refine hzh_no (i := 25) F rfl rfl (by kernel_rfl) (fun _ _ _ h => h) (H) (hw_f (X := true) F rfl rfl rfl) ?_; intro A F
   refine hzh_no (i := 26) F rfl rfl (by kernel_rfl) (fun _ _ _ h => h) (H) (hw_f (X := true) F rfl rfl rfl) ?_; intro A F
   refine hzh_no (i := 27) F rfl rfl (by kernel_rfl) (fun _ _ _ h => h) (H) (hw_f (X := true) F rfl rfl rfl) ?_; intro A F
   refine hzh_no (i := 28) F rfl rfl (by kernel_rfl) (fun _ _ _ h => h) (H) (hw_f (X := true) F rfl rfl rfl) ?_; intro A F
   refine hzh_no (i := 29) F rfl rfl (by kernel_rfl) (fun _ _ _ h => h) (H) (hw_f (X := true) F rfl rfl rfl) ?_; intro A F
   refine hzh_no (i := 30) F rfl rfl (by kernel_rfl) (fun _ _ _ h => h) (H) (hw_f (X := true) F rfl rfl rfl) ?_; intro A F
   refine hzh_do1 (i := 31) F rfl rfl (by kernel_rfl) (fun _ _ _ h => h) (H) (hw_t F rfl rfl rfl) (fun wz H => (ex_pickT rfl (F.e rfl) gx_evc)) ?_; intro A F
   refine hzh_do (i := 32) F rfl rfl (by kernel_rfl) (fun _ _ _ h => h) (H) (fun wz H => (ex_pickT rfl (F.e rfl) (F.e rfl))) ?_; intro A F
   refine td 33 ?_; intro A F
   refine hzh_do1 (i := 34) F rfl rfl (by kernel_rfl) (fun _ _ _ h => h) (H) (hw_t F rfl rfl rfl) (fun wz H => (ex_load rfl (F.e rfl) (gl_agg ((Pk.cells p t10)) rfl (ga_33 _) (gs_33 _) (fun i => H.cs 0 rfl i)))) ?_; intro A F
   refine hzh_do1 (i := 36) F rfl rfl (by kernel_rfl) (fun _ _ _ h => h) (H) (hw_t F rfl rfl rfl) (fun wz H => (ex_load rfl (F.e rfl) (gl_agg ((Pk.cells p s)) rfl (ga_27 _) (gs_27 _) (fun i => H.cs 1 rfl i)))) ?_; intro A F
   refine hzh_call1 (i := 35) (R := fun vv ww => ∃ s9, vv = Pk.val p s9 ∧ Pk.At p s9 ww ∧ (s9.ca = none → p.codes.length = 0 ∧ s9.cc = 0)) F rfl rfl (by kernel_rfl) (hw_t F rfl rfl rfl) (ex_call rfl rfl (gx_l1 (F.e rfl) gx_l0) fn_24) ((pkfrom_any p t10 _ (hA10.kept K10) (hsP hbF).few hCt10).mono fun e9 ww ⟨s9, h91, h92, h93, h94⟩ => ⟨_, h91, ⟨s9, rfl, h92, h94⟩, h93⟩) (fun _ hk => H.kept hk) ?_; clear F H A; intro vv W A hR hk H F; obtain ⟨t28, rfl, hA28, hCt28⟩ := hR
   replace K10 := K10.trans hk
   replace KE13 := KE13.trans hk
   replace KE15 := KE15.trans hk
   clear hk
   obtain ⟨w28, K28, hA28⟩ : ∃ w1, Kept No w1 W ∧ Pk.At p t28 w1 := ⟨W, Kept.refl No W, hA28⟩
   refine hzh_callk1 (i := 37) F rfl rfl (by kernel_rfl) (hw_t F rfl rfl rfl) (ex_call rfl rfl (gx_l1 (F.e rfl) (gx_l1 (F.e rfl) gx_l0)) fn_23) (rpksame2_any p p t28 s _ (hA28.kept K28) (hp.kept H.k) (hsP hbF).few (hsP hbF).few ⟨fun h => (hCt28 h).2⟩ ⟨fun h => (hcn h).2⟩) (fun _ hk => H.kept hk) ?_; clear F H A; intro W A hk H F
   replace K10 := K10.trans hk
   replace KE13 := KE13.trans hk
   replace KE15 := KE15.trans hk
   replace K28 := K28.trans hk
   clear hk
   have hr30 : (decide (p = p)) = true := (by simp)
   replace F := F.hd (congrArg Value.bool hr30)
   refine hzh_do (i := 38) F rfl rfl (by kernel_rfl) (fun _ _ _ h => h) (H) (fun wz H => (ex_pickT rfl (F.e rfl) (F.e rfl))) ?_; intro A F
   refine td 39 ?_; intro A F
   refine wpAnyH_done (by kernel_rfl) ?_ _
   refine hK16 _ _ ?_
   refine gx_ret ?_
   refine (show bodyPost _ Tryz.f3 RR Exit.ret _ _ from zr ?_)
   exact ⟨by first | rfl | simp [he0, size_len (hFit (hsP hbF)).wf], H.k.below (Nat.le_refl _) (fun _ _ f9 => f9)⟩
 have he0 : decide (eN v p = 0) = true := by unfold eN; rw [hrB] <;> rfl
 have hfl : flagsN p ≤ 255 := Nat.le_trans (flagsN_lt (right_ri hrB)) (by omega)
 have hRi := right_ri hrB
 refine wp_region_held_drew (S := fun wx => Hp _ wx _) (by kernel_rfl) H.drew (fun H9 => ?_); clear H; have H := H9; clear H9
 replace K10 := K10.trans (Kept.refl No _).drew
 replace KE13 := KE13.trans (Kept.refl No _).drew
 replace KE15 := KE15.trans (Kept.refl No _).drew
 generalize World.drew _ = W at *
 refine hb_one (i := 0) (by kernel_rfl) (hb_callk (i := 0) F rfl rfl (ex_call rfl rfl gx_l0 fn_16) (told8_any _ (hT.kept H.k)) (fun _ hk => (H.kept hk)) ?_); clear F A; intro W A hk _ F; replace H := H.kept hk
 replace K10 := K10.trans hk
 replace KE13 := KE13.trans hk
 replace KE15 := KE15.trans hk
 clear hk
 refine td 1 ?_; intro A F
 refine hzh_do1 (i := 2) F rfl rfl (by kernel_rfl) (fun _ _ _ h => h) (H) (hw_t F rfl rfl rfl) (fun wz H => (ex_move rfl (F.e rfl))) ?_; intro A F
 refine hzh_do1 (i := 3) F rfl rfl (by kernel_rfl) (fun _ _ _ h => h) (H) (hw_t F rfl rfl rfl) (fun wz H => (ex_move rfl (F.e rfl))) ?_; intro A F
 refine hzh_do1 (i := 4) F rfl rfl (by kernel_rfl) (fun _ _ _ h => h) (H) (hw_t F rfl rfl rfl) (fun wz H => (ex_bin rfl (F.e rfl) (F.e rfl) (rn_eqlN (i := eN v p) (j := eN v p)))) ?_; intro A F
 have hr32 : (decide (eN v p = eN v p)) = true := (by simp)
 replace F := F.hd (congrArg Value.bool hr32)
 refine hzh_do (i := 5) F rfl rfl (by kernel_rfl) (fun _ _ _ h => h) (H) (fun wz H => (ex_pickT rfl (F.e rfl) (F.e rfl))) ?_; intro A F
 refine td 6 ?_; intro A F
 refine hzh_do1 (i := 7) F rfl rfl (by kernel_rfl) (fun _ _ _ h => h) (H) (hw_t F rfl rfl rfl) (fun wz H => (ex_move rfl (F.e rfl))) ?_; intro A F
 refine hzh_do1 (i := 9) F rfl rfl (by kernel_rfl) (fun _ _ _ h => h) (H) (hw_t F rfl rfl rfl) (fun wz H => (ex_move rfl (F.e rfl))) ?_; intro A F
 refine hb_two (i := 8) (j := 10) (by kernel_rfl) ?_ ?_
 ·skip
  refine hb_new1 (v := (.string ((⟨(encL v p).toArray⟩ : ByteArray)))) (i := 8) F rfl rfl (hw_t F rfl rfl rfl) (ex_conv rfl (F.e rfl) (str8 (hRE13.keptNo KE13) hNE13)) (H) ?_; intro A F
  refine hb_one (i := 10) (by kernel_rfl) (hb_new1 (v := (.string ((⟨(encL v p).toArray⟩ : ByteArray)))) (i := 10) F rfl rfl (hw_t F rfl rfl rfl) (ex_conv rfl (F.e rfl) (str8 (hRE15.keptNo KE15) hNE15)) (H) ?_); intro A F
  refine hzh_do1 (i := 11) F rfl rfl (by kernel_rfl) (fun _ _ _ h => h) (H) (hw_t F rfl rfl rfl) (fun wz H => (ex_bin rfl (F.e rfl) (F.e rfl) (rn_seql))) ?_; intro A F
  have hr33 : (decide ((⟨(encL v p).toArray⟩ : ByteArray) = (⟨(encL v p).toArray⟩ : ByteArray))) = true := (by simp)
  replace F := F.hd (congrArg Value.bool hr33)
  refine hzh_do (i := 12) F rfl rfl (by kernel_rfl) (fun _ _ _ h => h) (H) (fun wz H => (ex_pickT rfl (F.e rfl) (F.e rfl))) ?_; intro A F
  refine td 13 ?_; intro A F
  refine hzh_do1 (i := 14) F rfl rfl (by kernel_rfl) (fun _ _ _ h => h) (H) (hw_t F rfl rfl rfl) (fun wz H => (ex_move rfl (F.e rfl))) ?_; intro A F
  refine hzh_do1 (i := 15) F rfl rfl (by kernel_rfl) (fun _ _ _ h => h) (H) (hw_t F rfl rfl rfl) (fun wz H => (ex_load rfl (F.e rfl) (gl_agg ((Pk.cells p t10)) rfl (ga_33 _) (gs_33 _) (fun i => H.cs 0 rfl i)))) ?_; intro A F
  refine hzh_do1 (i := 17) F rfl rfl (by kernel_rfl) (fun _ _ _ h => h) (H) (hw_t F rfl rfl rfl) (fun wz H => (ex_move rfl (F.e rfl))) ?_; intro A F
  refine hzh_do1 (i := 18) F rfl rfl (by kernel_rfl) (fun _ _ _ h => h) (H) (hw_t F rfl rfl rfl) (fun wz H => (ex_len rfl (gx_l1 (F.e rfl) gx_l0) (rn_lens Tryz.underlying25))) ?_; intro A F
  refine hzh_callk1 (i := 16) F rfl rfl (by kernel_rfl) (hw_t F rfl rfl rfl) (ex_call rfl rfl (gx_l1 (F.e rfl) (gx_l1 (F.e rfl) gx_l0)) fn_20) (size_any8 v p t10 _ (hA10.kept K10) (hFit (hsP hbF)) (hT.kept H.k)) (fun _ hk => H.kept hk) ?_; clear F H A; intro W A hk H F
  replace K10 := K10.trans hk
  replace KE13 := KE13.trans hk
  replace KE15 := KE15.trans hk
  clear hk
  refine hzh_do1 (i := 19) F rfl rfl (by kernel_rfl) (fun _ _ _ h => h) (H) (hw_t F rfl rfl rfl) (fun wz H => (ex_bin rfl (F.e rfl) (F.e rfl) (rn_eqlN (i := sizeN v p) (j := ((encL v p).length))))) ?_; intro A F
  have hr35 : (decide (sizeN v p = ((encL v p).length))) = true := (decide_eq_true (size_len (hFit (hsP hbF)).wf))
  replace F := F.hd (congrArg Value.bool hr35)
  refine hzh_do (i := 20) F rfl rfl (by kernel_rfl) (fun _ _ _ h => h) (H) (fun wz H => (ex_pickT rfl (F.e rfl) (F.e rfl))) ?_; intro A F
  refine td 21 ?_; intro A F
  refine hzh_do1 (i := 22) F rfl rfl (by kernel_rfl) (fun _ _ _ h => h) (H) (hw_t F rfl rfl rfl) (fun wz H => (ex_move rfl (F.e rfl))) ?_; intro A F
  refine hzh_do1 (i := 23) F rfl rfl (by kernel_rfl) (fun _ _ _ h => h) (H) (hw_t F rfl rfl rfl) (fun wz H => (ex_bin rfl (F.e rfl) gx_evc (rn_neqN (i := eN v p) (j := 0)))) ?_; intro A F
  replace F := F.hd (congrArg Value.bool (by rw [he0] <;> rfl))
  refine hzh_do1 (i := 24) F rfl rfl (by kernel_rfl) (fun _ _ _ h => h) (H) (hw_t F rfl rfl rfl) (fun wz H => (ex_move rfl (F.e rfl))) ?_; intro A F
  refine hzh_do1 (i := 25) F rfl rfl (by kernel_rfl) (fun _ _ _ h => h) (H) (hw_f (X := false) F rfl rfl rfl) (fun wz H => (ex_load rfl (F.e rfl) (gl_agg ((Pk.cells p t10)) rfl (ga_33 _) (gs_33 _) (fun i => H.cs 0 rfl i)))) ?_; intro A F
  refine hzh_do1 (i := 28) F rfl rfl (by kernel_rfl) (fun _ _ _ h => h) (H) (hw_f (X := false) F rfl rfl rfl) (fun wz H => (ex_load rfl (F.e rfl) (gl_agg ((Pk.cells p s)) rfl (ga_27 _) (gs_27 _) (fun i => H.cs 1 rfl i)))) ?_; intro A F
  refine hzh_callk1 (i := 26) F rfl rfl (by kernel_rfl) (hw_f (X := false) F rfl rfl rfl) (ex_call rfl rfl (gx_l1 (F.e rfl) gx_l0) fn_21) (flags_any v p t10 _ hRi) (fun _ hk => H.kept hk) ?_; clear F H A; intro W A hk H F
  replace K10 := K10.trans hk
  replace KE13 := KE13.trans hk
  replace KE15 := KE15.trans hk
  clear hk
  refine hzh_do1 (i := 27) F rfl rfl (by kernel_rfl) (fun _ _ _ h => h) (H) (hw_f (X := false) F rfl rfl rfl) (fun wz H => (ex_conv rfl (F.e rfl) (cv8_any ((flagsN p : Int)) _ (by omega) (by omega)))) ?_; intro A F
  refine hzh_callk1 (i := 29) F rfl rfl (by kernel_rfl) (hw_f (X := false) F rfl rfl rfl) (ex_call rfl rfl (gx_l1 (F.e rfl) gx_l0) fn_22) (rflags_any p s _ (hFit (hsP hbF))) (fun _ hk => H.kept hk) ?_; clear F H A; intro W A hk H F
  replace K10 := K10.trans hk
  replace KE13 := KE13.trans hk
  replace KE15 := KE15.trans hk
  clear hk
  refine hzh_do1 (i := 30) F rfl rfl (by kernel_rfl) (fun _ _ _ h => h) (H) (hw_f (X := false) F rfl rfl rfl) (fun wz H => (ex_bin rfl (F.e rfl) (F.e rfl) (rn_eqlN (i := flagsN p) (j := flagsN p)))) ?_; intro A F
  have hr38 : (decide (flagsN p = flagsN p)) = true := (by simp)
  replace F := F.hd (congrArg Value.bool hr38)
  refine hzh_do1 (i := 31) F rfl rfl (by kernel_rfl) (fun _ _ _ h => h) (H) (hw_t F rfl rfl rfl) (fun wz H => (ex_pickF rfl (F.e rfl) (F.e rfl))) ?_; intro A F
  refine hzh_do (i := 32) F rfl rfl (by kernel_rfl) (fun _ _ _ h => h) (H) (fun wz H => (ex_pickT rfl (F.e rfl) (F.e rfl))) ?_; intro A F
  refine td 33 ?_; intro A F
  refine hzh_do1 (i := 34) F rfl rfl (by kernel_rfl) (fun _ _ _ h => h) (H) (hw_t F rfl rfl rfl) (fun wz H => (ex_load rfl (F.e rfl) (gl_agg ((Pk.cells p t10)) rfl (ga_33 _) (gs_33 _) (fun i => H.cs 0 rfl i)))) ?_; intro A F
  refine hzh_do1 (i := 36) F rfl rfl (by kernel_rfl) (fun _ _ _ h => h) (H) (hw_t F rfl rfl rfl) (fun wz H => (ex_load rfl (F.e rfl) (gl_agg ((Pk.cells p s)) rfl (ga_27 _) (gs_27 _) (fun i => H.cs 1 rfl i)))) ?_; intro A F
  refine hzh_call1 (i := 35) (R := fun vv ww => ∃ s9, vv = Pk.val p s9 ∧ Pk.At p s9 ww ∧ (s9.ca = none → p.codes.length = 0 ∧ s9.cc = 0)) F rfl rfl (by kernel_rfl) (hw_t F rfl rfl rfl) (ex_call rfl rfl (gx_l1 (F.e rfl) gx_l0) fn_24) ((pkfrom_any p t10 _ (hA10.kept K10) (hsP hbF).few hCt10).mono fun e9 ww ⟨s9, h91, h92, h93, h94⟩ => ⟨_, h91, ⟨s9, rfl, h92, h94⟩, h93⟩) (fun _ hk => H.kept hk) ?_; clear F H A; intro vv W A hR hk H F; obtain ⟨t39, rfl, hA39, hCt39⟩ := hR
  replace K10 := K10.trans hk
  replace KE13 := KE13.trans hk
  replace KE15 := KE15.trans hk
  clear hk
  obtain ⟨w39, K39, hA39⟩ : ∃ w1, Kept No w1 W ∧ Pk.At p t39 w1 := ⟨W, Kept.refl No W, hA39⟩
  refine hzh_callk1 (i := 37) F rfl rfl (by kernel_rfl) (hw_t F rfl rfl rfl) (ex_call rfl rfl (gx_l1 (F.e rfl) (gx_l1 (F.e rfl) gx_l0)) fn_23) (rpksame2_any p p t39 s _ (hA39.kept K39) (hp.kept H.k) (hsP hbF).few (hsP hbF).few ⟨fun h => (hCt39 h).2⟩ ⟨fun h => (hcn h).2⟩) (fun _ hk => H.kept hk) ?_; clear F H A; intro W A hk H F
  replace K10 := K10.trans hk
  replace KE13 := KE13.trans hk
  replace KE15 := KE15.trans hk
  replace K39 := K39.trans hk
  clear hk
  have hr41 : (decide (p = p)) = true := (by simp)
  replace F := F.hd (congrArg Value.bool hr41)
  refine hzh_do (i := 38) F rfl rfl (by kernel_rfl) (fun _ _ _ h => h) (H) (fun wz H => (ex_pickT rfl (F.e rfl) (F.e rfl))) ?_; intro A F
  refine td 39 ?_; intro A F
  refine wpAnyH_done (by kernel_rfl) ?_ _
  refine hK16 _ _ ?_
  refine gx_ret ?_
  refine (show bodyPost _ Tryz.f3 RR Exit.ret _ _ from zr ?_)
  exact ⟨by first | rfl | simp [he0, size_len (hFit (hsP hbF)).wf], H.k.below (Nat.le_refl _) (fun _ _ f9 => f9)⟩
 ·skip
  refine hb_new1 (v := (.string ((⟨(encL v p).toArray⟩ : ByteArray)))) (i := 10) F rfl rfl (hw_t F rfl rfl rfl) (ex_conv rfl (F.e rfl) (str8 (hRE15.keptNo KE15) hNE15)) (H) ?_; intro A F
  refine hb_one (i := 8) (by kernel_rfl) (hb_new1 (v := (.string ((⟨(encL v p).toArray⟩ : ByteArray)))) (i := 8) F rfl rfl (hw_t F rfl rfl rfl) (ex_conv rfl (F.e rfl) (str8 (hRE13.keptNo KE13) hNE13)) (H) ?_); intro A F
  refine hzh_do1 (i := 11) F rfl rfl (by kernel_rfl) (fun _ _ _ h => h) (H) (hw_t F rfl rfl rfl) (fun wz H => (ex_bin rfl (F.e rfl) (F.e rfl) (rn_seql))) ?_; intro A F
  have hr42 : (decide ((⟨(encL v p).toArray⟩ : ByteArray) = (⟨(encL v p).toArray⟩ : ByteArray))) = true := (by simp)
  replace F := F.hd (congrArg Value.bool hr42)
  refine hzh_do (i := 12) F rfl rfl (by kernel_rfl) (fun _ _ _ h => h) (H) (fun wz H => (ex_pickT rfl (F.e rfl) (F.e rfl))) ?_; intro A F
  refine td 13 ?_; intro A F
  refine hzh_do1 (i := 14) F rfl rfl (by kernel_rfl) (fun _ _ _ h => h) (H) (hw_t F rfl rfl rfl) (fun wz H => (ex_move rfl (F.e rfl))) ?_; intro A F
  refine hzh_do1 (i := 15) F rfl rfl (by kernel_rfl) (fun _ _ _ h => h) (H) (hw_t F rfl rfl rfl) (fun wz H => (ex_load rfl (F.e rfl) (gl_agg ((Pk.cells p t10)) rfl (ga_33 _) (gs_33 _) (fun i => H.cs 0 rfl i)))) ?_; intro A F
  refine hzh_do1 (i := 17) F rfl rfl (by kernel_rfl) (fun _ _ _ h => h) (H) (hw_t F rfl rfl rfl) (fun wz H => (ex_move rfl (F.e rfl))) ?_; intro A F
  refine hzh_do1 (i := 18) F rfl rfl (by kernel_rfl) (fun _ _ _ h => h) (H) (hw_t F rfl rfl rfl) (fun wz H => (ex_len rfl (gx_l1 (F.e rfl) gx_l0) (rn_lens Tryz.underlying25))) ?_; intro A F
  refine hzh_callk1 (i := 16) F rfl rfl (by kernel_rfl) (hw_t F rfl rfl rfl) (ex_call rfl rfl (gx_l1 (F.e rfl) (gx_l1 (F.e rfl) gx_l0)) fn_20) (size_any8 v p t10 _ (hA10.kept K10) (hFit (hsP hbF)) (hT.kept H.k)) (fun _ hk => H.kept hk) ?_; clear F H A; intro W A hk H F
  replace K10 := K10.trans hk
  replace KE13 := KE13.trans hk
  replace KE15 := KE15.trans hk
  clear hk
  refine hzh_do1 (i := 19) F rfl rfl (by kernel_rfl) (fun _ _ _ h => h) (H) (hw_t F rfl rfl rfl) (fun wz H => (ex_bin rfl (F.e rfl) (F.e rfl) (rn_eqlN (i := sizeN v p) (j := ((encL v p).length))))) ?_; intro A F
  have hr44 : (decide (sizeN v p = ((encL v p).length))) = true := (decide_eq_true (size_len (hFit (hsP hbF)).wf))
  replace F := F.hd (congrArg Value.bool hr44)
  refine hzh_do (i := 20) F rfl rfl (by kernel_rfl) (fun _ _ _ h => h) (H) (fun wz H => (ex_pickT rfl (F.e rfl) (F.e rfl))) ?_; intro A F
  refine td 21 ?_; intro A F
  refine hzh_do1 (i := 22) F rfl rfl (by kernel_rfl) (fun _ _ _ h => h) (H) (hw_t F rfl rfl rfl) (fun wz H => (ex_move rfl (F.e rfl))) ?_; intro A F
  refine hzh_do1 (i := 23) F rfl rfl (by kernel_rfl) (fun _ _ _ h => h) (H) (hw_t F rfl rfl rfl) (fun wz H => (ex_bin rfl (F.e rfl) gx_evc (rn_neqN (i := eN v p) (j := 0)))) ?_; intro A F
  replace F := F.hd (congrArg Value.bool (by rw [he0] <;> rfl))
  refine hzh_do1 (i := 24) F rfl rfl (by kernel_rfl) (fun _ _ _ h => h) (H) (hw_t F rfl rfl rfl) (fun wz H => (ex_move rfl (F.e rfl))) ?_; intro A F
  refine hzh_do1 (i := 25) F rfl rfl (by kernel_rfl) (fun _ _ _ h => h) (H) (hw_f (X := false) F rfl rfl rfl) (fun wz H => (ex_load rfl (F.e rfl) (gl_agg ((Pk.cells p t10)) rfl (ga_33 _) (gs_33 _) (fun i => H.cs 0 rfl i)))) ?_; intro A F
  refine hzh_do1 (i := 28) F rfl rfl (by kernel_rfl) (fun _ _ _ h => h) (H) (hw_f (X := false) F rfl rfl rfl) (fun wz H => (ex_load rfl (F.e rfl) (gl_agg ((Pk.cells p s)) rfl (ga_27 _) (gs_27 _) (fun i => H.cs 1 rfl i)))) ?_; intro A F
  refine hzh_callk1 (i := 26) F rfl rfl (by kernel_rfl) (hw_f (X := false) F rfl rfl rfl) (ex_call rfl rfl (gx_l1 (F.e rfl) gx_l0) fn_21) (flags_any v p t10 _ hRi) (fun _ hk => H.kept hk) ?_; clear F H A; intro W A hk H F
  replace K10 := K10.trans hk
  replace KE13 := KE13.trans hk
  replace KE15 := KE15.trans hk
  clear hk
  refine hzh_do1 (i := 27) F rfl rfl (by kernel_rfl) (fun _ _ _ h => h) (H) (hw_f (X := false) F rfl rfl rfl) (fun wz H => (ex_conv rfl (F.e rfl) (cv8_any ((flagsN p : Int)) _ (by omega) (by omega)))) ?_; intro A F
  refine hzh_callk1 (i := 29) F rfl rfl (by kernel_rfl) (hw_f (X := false) F rfl rfl rfl) (ex_call rfl rfl (gx_l1 (F.e rfl) gx_l0) fn_22) (rflags_any p s _ (hFit (hsP hbF))) (fun _ hk => H.kept hk) ?_; clear F H A; intro W A hk H F
  replace K10 := K10.trans hk
  replace KE13 := KE13.trans hk
  replace KE15 := KE15.trans hk
  clear hk
  refine hzh_do1 (i := 30) F rfl rfl (by kernel_rfl) (fun _ _ _ h => h) (H) (hw_f (X := false) F rfl rfl rfl) (fun wz H => (ex_bin rfl (F.e rfl) (F.e rfl) (rn_eqlN (i := flagsN p) (j := flagsN p)))) ?_; intro A F
  have hr47 : (decide (flagsN p = flagsN p)) = true := (by simp)
  replace F := F.hd (congrArg Value.bool hr47)
  refine hzh_do1 (i := 31) F rfl rfl (by kernel_rfl) (fun _ _ _ h => h) (H) (hw_t F rfl rfl rfl) (fun wz H => (ex_pickF rfl (F.e rfl) (F.e rfl))) ?_; intro A F
  refine hzh_do (i := 32) F rfl rfl (by kernel_rfl) (fun _ _ _ h => h) (H) (fun wz H => (ex_pickT rfl (F.e rfl) (F.e rfl))) ?_; intro A F
  refine td 33 ?_; intro A F
  refine hzh_do1 (i := 34) F rfl rfl (by kernel_rfl) (fun _ _ _ h => h) (H) (hw_t F rfl rfl rfl) (fun wz H => (ex_load rfl (F.e rfl) (gl_agg ((Pk.cells p t10)) rfl (ga_33 _) (gs_33 _) (fun i => H.cs 0 rfl i)))) ?_; intro A F
  refine hzh_do1 (i := 36) F rfl rfl (by kernel_rfl) (fun _ _ _ h => h) (H) (hw_t F rfl rfl rfl) (fun wz H => (ex_load rfl (F.e rfl) (gl_agg ((Pk.cells p s)) rfl (ga_27 _) (gs_27 _) (fun i => H.cs 1 rfl i)))) ?_; intro A F
  refine hzh_call1 (i := 35) (R := fun vv ww => ∃ s9, vv = Pk.val p s9 ∧ Pk.At p s9 ww ∧ (s9.ca = none → p.codes.length = 0 ∧ s9.cc = 0)) F rfl rfl (by kernel_rfl) (hw_t F rfl rfl rfl) (ex_call rfl rfl (gx_l1 (F.e rfl) gx_l0) fn_24) ((pkfrom_any p t10 _ (hA10.kept K10) (hsP hbF).few hCt10).mono fun e9 ww ⟨s9, h91, h92, h93, h94⟩ => ⟨_, h91, ⟨s9, rfl, h92, h94⟩, h93⟩) (fun _ hk => H.kept hk) ?_; clear F H A; intro vv W A hR hk H F; obtain ⟨t48, rfl, hA48, hCt48⟩ := hR
  replace K10 := K10.trans hk
  replace KE13 := KE13.trans hk
  replace KE15 := KE15.trans hk
  clear hk
  obtain ⟨w48, K48, hA48⟩ : ∃ w1, Kept No w1 W ∧ Pk.At p t48 w1 := ⟨W, Kept.refl No W, hA48⟩
  refine hzh_callk1 (i := 37) F rfl rfl (by kernel_rfl) (hw_t F rfl rfl rfl) (ex_call rfl rfl (gx_l1 (F.e rfl) (gx_l1 (F.e rfl) gx_l0)) fn_23) (rpksame2_any p p t48 s _ (hA48.kept K48) (hp.kept H.k) (hsP hbF).few (hsP hbF).few ⟨fun h => (hCt48 h).2⟩ ⟨fun h => (hcn h).2⟩) (fun _ hk => H.kept hk) ?_; clear F H A; intro W A hk H F
  replace K10 := K10.trans hk
  replace KE13 := KE13.trans hk
  replace KE15 := KE15.trans hk
  replace K48 := K48.trans hk
  clear hk
  have hr50 : (decide (p = p)) = true := (by simp)
  replace F := F.hd (congrArg Value.bool hr50)
  refine hzh_do (i := 38) F rfl rfl (by kernel_rfl) (fun _ _ _ h => h) (H) (fun wz H => (ex_pickT rfl (F.e rfl) (F.e rfl))) ?_; intro A F
  refine td 39 ?_; intro A F
  refine wpAnyH_done (by kernel_rfl) ?_ _
  refine hK16 _ _ ?_
  refine gx_ret ?_
  refine (show bodyPost _ Tryz.f3 RR Exit.ret _ _ from zr ?_)
  exact ⟨by first | rfl | simp [he0, size_len (hFit (hsP hbF)).wf], H.k.below (Nat.le_refl _) (fun _ _ f9 => f9)⟩
theorem encodePackets_full (v : Int) (p : Pk) (s : Sl) (w : World) (w0 : (Lit.int .i64 v).wf = true) (w1 : IsPk w p s) (r1 : Reach p) (hT : Tabs w) :
  Calls Tryz.prog 3 #[.int .i64 v, p.val s] w fun e w' => e = .returned (.bool true) ∧ Below w.heap.size w w' :=
 encodePackets_walk v p s w w1.at r1 (fun f => w1.fit r1 f) w1.hc.hnil hT
end Go.Proofs.YtomppebamfpimaaGreatDoor
