import Derived.Test.YtbddcogjeahfeaaGreatDoorZLmL
import Derived.Test.YtbddcogjeahfeaaGreatDoorZHxF5
import Derived.Test.YtbddcogjeahfeaaGreatDoorYFU
namespace Go.Proofs.YtbddcogjeahfeaaGreatDoor
open Go.RowKit
set_option linter.unusedVariables false
set_option linter.unusedSimpArgs false
set_option maxRecDepth 100000
theorem kat {p : Pk} {s : Sl} {w : World} (k : Int) (h : p.At s w) : Pk.At { p with kind := k } s w := ⟨h.hw, h.hf, h.hc, h.hp⟩
theorem kany {p : Pk} (k : Int) (h : Any p) : Any { p with kind := k } :=
 ⟨⟨h.r.client, h.r.willTopic, h.r.willLoad, h.r.user, h.r.pass, h.r.topic, h.r.load, h.r.nw, h.r.nf, h.r.nc, h.r.np, h.r.tf, h.r.tp, h.r.tw⟩, h.qos, h.id, h.keep, h.wq, h.code, h.opt, h.pw, h.ww⟩
def Fix5R (vv : Value) (ww : World) : Prop := ∃ q s1, vv = Pk.val q s1 ∧ q.At s1 ww ∧ Fine 40 q ∧ (s1.ca = none → q.codes.length = 0 ∧ s1.cc = 0)
theorem fix5_full (p : Pk) (s : Sl) (w : World) (hp : p.At s w) (hY : Any p) :
  Calls Tryz.prog 11 #[.int .i64 5, p.val s] w fun e w' => ∃ vv, e = .returned vv ∧ Fix5R vv w' ∧ Kept No w w' :=
 (fix7_5 p s w hp hY).mono fun e w' ⟨q, s', h1, hA, ⟨Q, hq, hQ⟩, hc, hk⟩ => ⟨_, h1, ⟨q, s', rfl, hA, by rw [hq]; exact hQ.fineQ.bare, hc⟩, hk⟩
theorem ofP_four (p : Pk) : ofP 4 p = .std := by unfold ofP; rw [if_neg (by rintro ⟨h, _⟩; exact absurd h (by decide))]
theorem of_four (p : Pk) (s : Sl) (w : World) (hp : p.At s w) (hF : Fit p) (hT : Tabs w) :
  Calls Tryz.prog 8 #[.int .i64 4, p.val s] w fun e w' => e = .returned (Lm.val .std) ∧ Kept No w w' := by
 have h := of_any 4 p s w hp hF hF.few.hp hT
 rw [ofP_four] at h
 exact h
set_option maxHeartbeats 8000000 in
theorem limitsFixes_walk (p : Pk) (s : Sl) (c : Bool) (w : World) (hp : p.At s w) (hY : Any p) (hT : Tabs w) :
  Calls Tryz.prog 4 #[p.val s, .bool c] w fun e w' => e = .returned (.bool true) ∧ Below w.heap.size w w' := by
 let RR : Ending → World → Prop := fun e w' => e = .returned (.bool true) ∧ Below w.heap.size w w'
 go_enter Tryz.func4, Tryz.ntmps4
 generalize hA : ({ tmps := _, defers := [] } : Act) = A
 have F : Fr A 29 [(1, (.bool c)), (0, (Pk.val p s))] := by rw [← hA]; exact (Fr.cons (i := 1) (v := (.bool c)) (Fr.cons (i := 0) (v := (Pk.val p s)) (Fr.nil0 rfl rfl) rfl) rfl)
 clear hA; have H := Hp.start w
 refine wp_seq_k (fun K1 hK1 => gx_region ?_)
 refine hz_new (c := (Pk.cells p s)) (t := 27) F H rfl (ex_box rfl (F.e rfl) (gx_box _ _)) ?_; clear F A; intro b2 W A hk hN H9 F; clear H; have H := H9; clear H9
 clear hk hN
 refine zd ?_; intro A F
 refine wpList_nil (hK1 _ _ ?_)
 refine wp_seq_k (fun K3 hK3 => gx_region ?_)
 refine zd ?_; intro A F
 let P4 : Pk := { p with kind := 0 }
 refine zs [] ((Pk.cells P4 s)) ?_; intro W H9 hk
 clear H hk; have H := H9; clear H9
 refine wpList_nil (hK3 _ _ ?_)
 refine wp_seq_k (fun K5 hK5 => ?_)
 refine wp_seq_k (fun K6 hK6 => gx_region ?_)
 refine zd ?_; intro A F
 refine wpList_nil (hK6 _ _ ?_)
 refine zc (fun hb7 => ?_) (fun hb7 => ?_)
 ·skip
  refine gx_region ?_
  refine zd ?_; intro A F
  let P8 : Pk := { P4 with kind := 1 }
  refine zs [] ((Pk.cells P8 s)) ?_; intro W H9 hk
  clear H hk; have H := H9; clear H9
  refine wpList_nil (hK5 _ _ ?_)
  refine wp_seq_k (fun K9 hK9 => gx_region ?_)
  refine hz_do F rfl (ex_load rfl (F.e rfl) (gl_agg ((Pk.cells P8 s)) rfl (ga_27 _) (gs_27 _) (fun i => H.cs 0 rfl i))) ?_; intro A F
  refine hz_call (R := Fix5R) F H rfl (ex_call rfl rfl (gx_l1 gx_evc (gx_l1 (F.e rfl) gx_l0)) fn_11) (fix5_full P8 s _ (kat (p := p) 1 (hp.kept H.k)) (kany (p := p) 1 hY)) ?_; clear F H A; intro vv W A hR hk H F; obtain ⟨q10, s10, rfl, hA10, hF10, hC10⟩ := hR
  clear hk
  obtain ⟨w10, K10, hA10⟩ : ∃ w1, Kept No w1 W ∧ Pk.At q10 s10 w1 := ⟨W, Kept.refl No W, hA10⟩
  refine hz_new (c := zeroPk) (t := 27) F H rfl (ex_alloc rfl (al_27 _)) ?_; clear F A; intro b11 W A hk hN H9 F; clear H; have H := H9; clear H9
  have hN_K10_b11 := Nat.le_trans K10.size hN
  replace K10 := K10.trans hk
  clear hk hN
  obtain ⟨W9, hr, hB, hk⟩ := gx_storeAgg (P := Tryz.prog) (S := 27) (c := (Pk.cells q10 s10)) _ (H.b.at_ (j := 0) rfl).1 (gs_27 _) rfl (pk_one _ _)
  refine hz_st (ex_store rfl (F.e rfl) (F.e rfl) hr) ?_; clear hr; replace H : Hp _ _ [_, _] := Hp.turn [] H hk hB; replace K10 := K10.then hk (fun i9 hi9 e9 => by have e9 : i9 = b11 := e9; have := hN_K10_b11; omega); clear hk hB
  refine wpList_nil (hK9 _ _ ?_)
  refine wp_seq_k (fun K12 hK12 => ?_)
  refine wp_region_held_drew (S := fun wx => Hp _ wx _) (by kernel_rfl) H.drew (fun H9 => ?_); clear H; have H := H9; clear H9
  replace K10 := K10.trans (Kept.refl No _).drew
  generalize World.drew _ = W at *
  refine hb_one (i := 0) (by kernel_rfl) (hb_callk (i := 0) F rfl rfl (ex_call rfl rfl gx_l0 fn_6) (told13_any _ (hT.kept H.k)) (fun _ hk => (H.kept hk)) ?_); clear F A; intro W A hk _ F; replace H := H.kept hk
  replace K10 := K10.trans hk
  clear hk
  refine td 1 ?_; intro A F
  refine hzh_do1 (i := 2) F rfl rfl (by kernel_rfl) (fun _ _ _ h => h) (H) (hw_t F rfl rfl rfl) (fun wz H => (ex_load rfl (F.e rfl) (gl_agg ((Pk.cells q10 s10)) rfl (ga_27 _) (gs_27 _) (fun i => H.cs 0 rfl i)))) ?_; intro A F
  refine hzh_do1 (i := 6) F rfl rfl (by kernel_rfl) (fun _ _ _ h => h) (H) (hw_t F rfl rfl rfl) (fun wz H => (ex_load rfl (F.e rfl) (gl_agg ((Pk.cells q10 s10)) rfl (ga_27 _) (gs_27 _) (fun i => H.cs 0 rfl i)))) ?_; intro A F
  refine hzh_call1 (i := 3) (R := fun vv ww => ∃ s9, vv = Pk.val q10 s9 ∧ Pk.At q10 s9 ww ∧ (s9.ca = none → (Pk.codes q10).length = 0 ∧ s9.cc = 0)) F rfl rfl (by kernel_rfl) (hw_t F rfl rfl rfl) (ex_call rfl rfl (gx_l1 (F.e rfl) gx_l0) fn_9) ((pkto2_any q10 s10 _ (hA10.kept K10) (hF10.fit (by decide)).few hC10).mono fun e9 ww ⟨s9, h91, h92, h93, h94⟩ => ⟨_, h91, ⟨s9, rfl, h92, h94⟩, h93⟩) (fun _ hk => H.kept hk) ?_; clear F H A; intro vv W A hR hk H F; obtain ⟨t14, rfl, hA14, hCt14⟩ := hR
  replace K10 := K10.trans hk
  clear hk
  obtain ⟨w14, K14, hA14⟩ : ∃ w1, Kept No w1 W ∧ Pk.At q10 t14 w1 := ⟨W, Kept.refl No W, hA14⟩
  refine hzh_callk1 (i := 4) F rfl rfl (by kernel_rfl) (hw_t F rfl rfl rfl) (ex_call rfl rfl (gx_l1 gx_evc (gx_l1 (F.e rfl) gx_l0)) fn_8) (of_any 5 q10 t14 _ (hA14.kept K14) (hF10.fit (by decide)) (hF10.fit (by decide)).few.hp (hT.kept H.k)) (fun _ hk => H.kept hk) ?_; clear F H A; intro W A hk H F
  replace K10 := K10.trans hk
  replace K14 := K14.trans hk
  clear hk
  refine hzh_callk1 (i := 5) F rfl rfl (by kernel_rfl) (hw_t F rfl rfl rfl) (ex_call rfl rfl (gx_l1 (F.e rfl) gx_l0) fn_7) (from13_any (ofP 5 q10) _) (fun _ hk => H.kept hk) ?_; clear F H A; intro W A hk H F
  replace K10 := K10.trans hk
  replace K14 := K14.trans hk
  clear hk
  refine hzh_callk1 (i := 7) F rfl rfl (by kernel_rfl) (hw_t F rfl rfl rfl) (ex_call rfl rfl (gx_l1 gx_evc (gx_l1 (F.e rfl) gx_l0)) fn_10) (rof_same 5 q10 s10 _ (hA10.kept K10) (hF10.fit (by decide)) (hF10.small (by decide)) hC10) (fun _ hk => H.kept hk) ?_; clear F H A; intro W A hk H F
  replace K10 := K10.trans hk
  replace K14 := K14.trans hk
  clear hk
  refine hzh_do1 (i := 8) F rfl rfl (by kernel_rfl) (fun _ _ _ h => h) (H) (hw_t F rfl rfl rfl) (fun wz H => (ex_bin rfl (F.e rfl) (F.e rfl) (rn_lm (ofP 5 q10) _))) ?_; intro A F
  refine hzh_do (i := 9) F rfl rfl (by kernel_rfl) (fun _ _ _ h => h) (H) (fun wz H => (ex_pickT rfl (F.e rfl) (F.e rfl))) ?_; intro A F
  refine td 10 ?_; intro A F
  refine hzh_do1 (i := 11) F rfl rfl (by kernel_rfl) (fun _ _ _ h => h) (H) (hw_t F rfl rfl rfl) (fun wz H => (ex_load rfl (F.e rfl) (gl_agg ((Pk.cells q10 s10)) rfl (ga_27 _) (gs_27 _) (fun i => H.cs 0 rfl i)))) ?_; intro A F
  refine hzh_call1 (i := 12) (R := fun vv ww => ∃ s9, vv = Pk.val q10 s9 ∧ Pk.At q10 s9 ww ∧ (s9.ca = none → (Pk.codes q10).length = 0 ∧ s9.cc = 0)) F rfl rfl (by kernel_rfl) (hw_t F rfl rfl rfl) (ex_call rfl rfl (gx_l1 (F.e rfl) gx_l0) fn_9) ((pkto2_any q10 s10 _ (hA10.kept K10) (hF10.fit (by decide)).few hC10).mono fun e9 ww ⟨s9, h91, h92, h93, h94⟩ => ⟨_, h91, ⟨s9, rfl, h92, h94⟩, h93⟩) (fun _ hk => H.kept hk) ?_; clear F H A; intro vv W A hR hk H F; obtain ⟨t18, rfl, hA18, hCt18⟩ := hR
  replace K10 := K10.trans hk
  replace K14 := K14.trans hk
  clear hk
  obtain ⟨w18, K18, hA18⟩ : ∃ w1, Kept No w1 W ∧ Pk.At q10 t18 w1 := ⟨W, Kept.refl No W, hA18⟩
  refine hzh_callk1 (i := 13) F rfl rfl (by kernel_rfl) (hw_t F rfl rfl rfl) (ex_call rfl rfl (gx_l1 gx_evc (gx_l1 (F.e rfl) gx_l0)) fn_8) (of_four q10 t18 _ (hA18.kept K18) (hF10.fit (by decide)) (hT.kept H.k)) (fun _ hk => H.kept hk) ?_; clear F H A; intro W A hk H F
  replace K10 := K10.trans hk
  replace K14 := K14.trans hk
  replace K18 := K18.trans hk
  clear hk
  refine hzh_callk1 (i := 14) F rfl rfl (by kernel_rfl) (hw_t F rfl rfl rfl) (ex_call rfl rfl (gx_l1 (F.e rfl) gx_l0) fn_7) (from13_any .std _) (fun _ hk => H.kept hk) ?_; clear F H A; intro W A hk H F
  replace K10 := K10.trans hk
  replace K14 := K14.trans hk
  replace K18 := K18.trans hk
  clear hk
  refine hzh_callk1 (i := 15) F rfl rfl (by kernel_rfl) (hw_t F rfl rfl rfl) (ex_call rfl rfl gx_l0 fn_12) (rdefault_any _) (fun _ hk => H.kept hk) ?_; clear F H A; intro W A hk H F
  replace K10 := K10.trans hk
  replace K14 := K14.trans hk
  replace K18 := K18.trans hk
  clear hk
  refine hzh_do1 (i := 16) F rfl rfl (by kernel_rfl) (fun _ _ _ h => h) (H) (hw_t F rfl rfl rfl) (fun wz H => (ex_bin rfl (F.e rfl) (F.e rfl) (rn_lm .std _))) ?_; intro A F
  refine hzh_do (i := 17) F rfl rfl (by kernel_rfl) (fun _ _ _ h => h) (H) (fun wz H => (ex_pickT rfl (F.e rfl) (F.e rfl))) ?_; intro A F
  refine td 18 ?_; intro A F
  refine wpAnyH_done (by kernel_rfl) ?_ _
  refine hK12 _ _ ?_
  refine gx_ret ?_
  refine (show bodyPost _ Tryz.f4 RR Exit.ret _ _ from zr ?_)
  exact ⟨by first | rfl | simp, H.k.below (Nat.le_refl _) (fun _ _ f9 => f9)⟩
 refine wp_skip (hK5 _ _ ?_)
 refine wp_seq_k (fun K22 hK22 => gx_region ?_)
 refine hz_do F rfl (ex_load rfl (F.e rfl) (gl_agg ((Pk.cells P4 s)) rfl (ga_27 _) (gs_27 _) (fun i => H.cs 0 rfl i))) ?_; intro A F
 refine hz_call (R := Fix5R) F H rfl (ex_call rfl rfl (gx_l1 gx_evc (gx_l1 (F.e rfl) gx_l0)) fn_11) (fix5_full P4 s _ (kat (p := p) 0 (hp.kept H.k)) (kany (p := p) 0 hY)) ?_; clear F H A; intro vv W A hR hk H F; obtain ⟨q23, s23, rfl, hA23, hF23, hC23⟩ := hR
 clear hk
 obtain ⟨w23, K23, hA23⟩ : ∃ w1, Kept No w1 W ∧ Pk.At q23 s23 w1 := ⟨W, Kept.refl No W, hA23⟩
 refine hz_new (c := zeroPk) (t := 27) F H rfl (ex_alloc rfl (al_27 _)) ?_; clear F A; intro b24 W A hk hN H9 F; clear H; have H := H9; clear H9
 have hN_K23_b24 := Nat.le_trans K23.size hN
 replace K23 := K23.trans hk
 clear hk hN
 obtain ⟨W9, hr, hB, hk⟩ := gx_storeAgg (P := Tryz.prog) (S := 27) (c := (Pk.cells q23 s23)) _ (H.b.at_ (j := 0) rfl).1 (gs_27 _) rfl (pk_one _ _)
 refine hz_st (ex_store rfl (F.e rfl) (F.e rfl) hr) ?_; clear hr; replace H : Hp _ _ [_, _] := Hp.turn [] H hk hB; replace K23 := K23.then hk (fun i9 hi9 e9 => by have e9 : i9 = b24 := e9; have := hN_K23_b24; omega); clear hk hB
 refine wpList_nil (hK22 _ _ ?_)
 refine wp_seq_k (fun K25 hK25 => ?_)
 refine wp_region_held_drew (S := fun wx => Hp _ wx _) (by kernel_rfl) H.drew (fun H9 => ?_); clear H; have H := H9; clear H9
 replace K23 := K23.trans (Kept.refl No _).drew
 generalize World.drew _ = W at *
 refine hb_one (i := 0) (by kernel_rfl) (hb_callk (i := 0) F rfl rfl (ex_call rfl rfl gx_l0 fn_6) (told13_any _ (hT.kept H.k)) (fun _ hk => (H.kept hk)) ?_); clear F A; intro W A hk _ F; replace H := H.kept hk
 replace K23 := K23.trans hk
 clear hk
 refine td 1 ?_; intro A F
 refine hzh_do1 (i := 2) F rfl rfl (by kernel_rfl) (fun _ _ _ h => h) (H) (hw_t F rfl rfl rfl) (fun wz H => (ex_load rfl (F.e rfl) (gl_agg ((Pk.cells q23 s23)) rfl (ga_27 _) (gs_27 _) (fun i => H.cs 0 rfl i)))) ?_; intro A F
 refine hzh_do1 (i := 6) F rfl rfl (by kernel_rfl) (fun _ _ _ h => h) (H) (hw_t F rfl rfl rfl) (fun wz H => (ex_load rfl (F.e rfl) (gl_agg ((Pk.cells q23 s23)) rfl (ga_27 _) (gs_27 _) (fun i => H.cs 0 rfl i)))) ?_; intro A F
 refine hzh_call1 (i := 3) (R := fun vv ww => ∃ s9, vv = Pk.val q23 s9 ∧ Pk.At q23 s9 ww ∧ (s9.ca = none → (Pk.codes q23).length = 0 ∧ s9.cc = 0)) F rfl rfl (by kernel_rfl) (hw_t F rfl rfl rfl) (ex_call rfl rfl (gx_l1 (F.e rfl) gx_l0) fn_9) ((pkto2_any q23 s23 _ (hA23.kept K23) (hF23.fit (by decide)).few hC23).mono fun e9 ww ⟨s9, h91, h92, h93, h94⟩ => ⟨_, h91, ⟨s9, rfl, h92, h94⟩, h93⟩) (fun _ hk => H.kept hk) ?_; clear F H A; intro vv W A hR hk H F; obtain ⟨t27, rfl, hA27, hCt27⟩ := hR
 replace K23 := K23.trans hk
 clear hk
 obtain ⟨w27, K27, hA27⟩ : ∃ w1, Kept No w1 W ∧ Pk.At q23 t27 w1 := ⟨W, Kept.refl No W, hA27⟩
 refine hzh_callk1 (i := 4) F rfl rfl (by kernel_rfl) (hw_t F rfl rfl rfl) (ex_call rfl rfl (gx_l1 gx_evc (gx_l1 (F.e rfl) gx_l0)) fn_8) (of_any 5 q23 t27 _ (hA27.kept K27) (hF23.fit (by decide)) (hF23.fit (by decide)).few.hp (hT.kept H.k)) (fun _ hk => H.kept hk) ?_; clear F H A; intro W A hk H F
 replace K23 := K23.trans hk
 replace K27 := K27.trans hk
 clear hk
 refine hzh_callk1 (i := 5) F rfl rfl (by kernel_rfl) (hw_t F rfl rfl rfl) (ex_call rfl rfl (gx_l1 (F.e rfl) gx_l0) fn_7) (from13_any (ofP 5 q23) _) (fun _ hk => H.kept hk) ?_; clear F H A; intro W A hk H F
 replace K23 := K23.trans hk
 replace K27 := K27.trans hk
 clear hk
 refine hzh_callk1 (i := 7) F rfl rfl (by kernel_rfl) (hw_t F rfl rfl rfl) (ex_call rfl rfl (gx_l1 gx_evc (gx_l1 (F.e rfl) gx_l0)) fn_10) (rof_same 5 q23 s23 _ (hA23.kept K23) (hF23.fit (by decide)) (hF23.small (by decide)) hC23) (fun _ hk => H.kept hk) ?_; clear F H A; intro W A hk H F
 replace K23 := K23.trans hk
 replace K27 := K27.trans hk
 clear hk
 refine hzh_do1 (i := 8) F rfl rfl (by kernel_rfl) (fun _ _ _ h => h) (H) (hw_t F rfl rfl rfl) (fun wz H => (ex_bin rfl (F.e rfl) (F.e rfl) (rn_lm (ofP 5 q23) _))) ?_; intro A F
 refine hzh_do (i := 9) F rfl rfl (by kernel_rfl) (fun _ _ _ h => h) (H) (fun wz H => (ex_pickT rfl (F.e rfl) (F.e rfl))) ?_; intro A F
 refine td 10 ?_; intro A F
 refine hzh_do1 (i := 11) F rfl rfl (by kernel_rfl) (fun _ _ _ h => h) (H) (hw_t F rfl rfl rfl) (fun wz H => (ex_load rfl (F.e rfl) (gl_agg ((Pk.cells q23 s23)) rfl (ga_27 _) (gs_27 _) (fun i => H.cs 0 rfl i)))) ?_; intro A F
 refine hzh_call1 (i := 12) (R := fun vv ww => ∃ s9, vv = Pk.val q23 s9 ∧ Pk.At q23 s9 ww ∧ (s9.ca = none → (Pk.codes q23).length = 0 ∧ s9.cc = 0)) F rfl rfl (by kernel_rfl) (hw_t F rfl rfl rfl) (ex_call rfl rfl (gx_l1 (F.e rfl) gx_l0) fn_9) ((pkto2_any q23 s23 _ (hA23.kept K23) (hF23.fit (by decide)).few hC23).mono fun e9 ww ⟨s9, h91, h92, h93, h94⟩ => ⟨_, h91, ⟨s9, rfl, h92, h94⟩, h93⟩) (fun _ hk => H.kept hk) ?_; clear F H A; intro vv W A hR hk H F; obtain ⟨t31, rfl, hA31, hCt31⟩ := hR
 replace K23 := K23.trans hk
 replace K27 := K27.trans hk
 clear hk
 obtain ⟨w31, K31, hA31⟩ : ∃ w1, Kept No w1 W ∧ Pk.At q23 t31 w1 := ⟨W, Kept.refl No W, hA31⟩
 refine hzh_callk1 (i := 13) F rfl rfl (by kernel_rfl) (hw_t F rfl rfl rfl) (ex_call rfl rfl (gx_l1 gx_evc (gx_l1 (F.e rfl) gx_l0)) fn_8) (of_four q23 t31 _ (hA31.kept K31) (hF23.fit (by decide)) (hT.kept H.k)) (fun _ hk => H.kept hk) ?_; clear F H A; intro W A hk H F
 replace K23 := K23.trans hk
 replace K27 := K27.trans hk
 replace K31 := K31.trans hk
 clear hk
 refine hzh_callk1 (i := 14) F rfl rfl (by kernel_rfl) (hw_t F rfl rfl rfl) (ex_call rfl rfl (gx_l1 (F.e rfl) gx_l0) fn_7) (from13_any .std _) (fun _ hk => H.kept hk) ?_; clear F H A; intro W A hk H F
 replace K23 := K23.trans hk
 replace K27 := K27.trans hk
 replace K31 := K31.trans hk
 clear hk
 refine hzh_callk1 (i := 15) F rfl rfl (by kernel_rfl) (hw_t F rfl rfl rfl) (ex_call rfl rfl gx_l0 fn_12) (rdefault_any _) (fun _ hk => H.kept hk) ?_; clear F H A; intro W A hk H F
 replace K23 := K23.trans hk
 replace K27 := K27.trans hk
 replace K31 := K31.trans hk
 clear hk
 refine hzh_do1 (i := 16) F rfl rfl (by kernel_rfl) (fun _ _ _ h => h) (H) (hw_t F rfl rfl rfl) (fun wz H => (ex_bin rfl (F.e rfl) (F.e rfl) (rn_lm .std _))) ?_; intro A F
 refine hzh_do (i := 17) F rfl rfl (by kernel_rfl) (fun _ _ _ h => h) (H) (fun wz H => (ex_pickT rfl (F.e rfl) (F.e rfl))) ?_; intro A F
 refine td 18 ?_; intro A F
 refine wpAnyH_done (by kernel_rfl) ?_ _
 refine hK25 _ _ ?_
 refine gx_ret ?_
 refine (show bodyPost _ Tryz.f4 RR Exit.ret _ _ from zr ?_)
 exact ⟨by first | rfl | simp, H.k.below (Nat.le_refl _) (fun _ _ f9 => f9)⟩
theorem limitsFixes_full (p : Pk) (s : Sl) (c : Bool) (w : World) (w0 : IsPk w p s) (r0 : Reach p) (hT : Tabs w) :
  Calls Tryz.prog 4 #[p.val s, .bool c] w fun e w' => e = .returned (.bool true) ∧ Below w.heap.size w w' :=
 limitsFixes_walk p s c w w0.at (w0.any r0) hT
end Go.Proofs.YtbddcogjeahfeaaGreatDoor
