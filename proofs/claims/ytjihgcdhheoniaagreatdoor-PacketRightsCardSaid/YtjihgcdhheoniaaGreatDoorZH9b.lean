/-
  PacketRights' walk.
-/
import Derived.Test.YtjihgcdhheoniaaGreatDoorYFK
import Derived.Test.YtjihgcdhheoniaaGreatDoorYFL
import Derived.Test.YtjihgcdhheoniaaGreatDoorYFE
namespace Go.Proofs.YtjihgcdhheoniaaGreatDoor
open Go.RowKit
set_option linter.unusedVariables false
set_option linter.unusedSimpArgs false
set_option maxRecDepth 100000

theorem IsPk.at {w : World} {p : Pk} {s : Sl} (h : IsPk w p s) : p.At s w := ⟨h.hw.hrow, h.hf.hrow, h.hc.hrow, h.hp.hrow⟩
theorem IsPk.fit {w : World} {p : Pk} {s : Sl} (h : IsPk w p s) (r : Reach p) (f : Small p) : Fit p := ⟨f.few, ⟨fun x hx => ⟨(h.hw.hwf x hx).1, (h.hw.hwf x hx).2.1, by have := (f.tw x hx).1; omega, by have := (f.tw x hx).2; omega⟩, fun x hx => ⟨(h.hp.hwf x hx).1, (h.hp.hwf x hx).2.1, by have := (f.tp x hx).1; omega, by have := (f.tp x hx).2; omega⟩⟩, r, h.hqos, h.hid, h.hkeep, h.hwillQoS, h.hcode, fun f hf => (h.hf.hwf f hf).2⟩
theorem packetRights_walk (v : Int) (p : Pk) (s : Sl) (w : World) (hp : p.At s w) (hR : Reach p) (hFit : Small p → Fit p) (hcn : s.ca = none → p.codes.length = 0 ∧ s.cc = 0) (hT : Tabs w) (hN : NamesAt w) :
    Calls Tryz.prog 3 #[.int .i64 v, p.val s] w fun e w' => e = .returned (.bool true) ∧ Below w.heap.size w w' := by
  go_enter Tryz.func3, Tryz.ntmps3
  generalize hA : ({ tmps := _, defers := [] } : Act) = A
  have F : Fr A 28 [(1, (Pk.val p s)), (0, (.int .i64 v))] := by rw [← hA]; exact (Fr.cons (i := 1) (v := (Pk.val p s)) (Fr.cons (i := 0) (v := (.int .i64 v)) (Fr.nil0 rfl rfl) rfl) rfl)
  clear hA; have H := Hp.start w
  refine wp_seq_k (fun K1 hK1 => ?_)
  refine gx_region ?_
  refine hz_new (c := (Pk.cells p s)) (t := 27) F H rfl (ex_box rfl (F.e rfl) (gx_box _ _)) ?_; clear F A; intro b2 W A hk hN H9 F; clear H; have H := H9; clear H9
  clear hk hN
  refine hz_do F rfl (ex_assign rfl gx_evc) ?_; clear F A; intro A F
  refine wpList_nil ?_
  refine hK1 _ _ ?_
  refine wp_seq_k (fun K3 hK3 => ?_)
  refine wp_seq_k (fun K4 hK4 => ?_)
  refine gx_region ?_
  refine hz_do F rfl (ex_load rfl (F.e rfl) (gl_agg ((Pk.cells p s)) rfl (ga_27 _) (gs_27 _) (fun i => H.cs 0 rfl i))) ?_; clear F A; intro A F
  refine hz_call (R := fun vv ww => ∃ b9, vv = .bool b9 ∧ (b9 = true → Small p)) F H rfl (ex_call rfl rfl (gx_l1 (F.e rfl) gx_l0) fn_6) ((few_any p s _ (hp.kept H.k) hR).mono fun e9 ww ⟨b9, h91, h92, h93⟩ => ⟨_, h91, ⟨b9, rfl, h92⟩, h93⟩) ?_; clear F H A; intro vv W A hR hk H F; obtain ⟨bP, rfl, hsP⟩ := hR
  clear hk
  refine hz_do F rfl (ex_not rfl (F.e rfl)) ?_; clear F A; intro A F
  refine wpList_nil ?_
  refine hK4 _ _ ?_
  refine hz_cond (F.e rfl) (fun hb6 => ?_) (fun hb6 => ?_)
  · skip
    refine wp_seq_k (fun K7 hK7 => ?_)
    refine gx_region ?_
    refine hz_callk F H rfl (ex_call rfl rfl gx_l0 fn_7) (told7_any _ (hT.kept H.k) (hN.kept H.k)) ?_; clear F H A; intro W A hk H F
    clear hk
    refine hz_do F rfl (ex_assign rfl (F.e rfl)) ?_; clear F A; intro A F
    refine wpList_nil ?_
    refine hK7 _ _ ?_
    refine gx_ret ?_
    refine (show bodyPost Tryz.prog Tryz.f3 (fun e w' => e = .returned (.bool true) ∧ Below w.heap.size w w') Exit.ret _ _ from ?_)
    exact bodyPost_ret (fn := Tryz.f3) (gx_res rfl (F.g 4 _ rfl)) F.d (⟨by first | rfl | simp, H.k.below (Nat.le_refl _) (fun _ _ f9 => f9)⟩)
  refine wp_skip ?_
  refine hK3 _ _ ?_
  refine wp_seq_k (fun K9 hK9 => ?_)
  have hbF : bP = true := by have h6 := hb6; revert h6; cases bP <;> simp
  refine gx_region ?_
  refine hz_do F rfl (ex_load rfl (F.e rfl) (gl_agg ((Pk.cells p s)) rfl (ga_27 _) (gs_27 _) (fun i => H.cs 0 rfl i))) ?_; clear F A; intro A F
  refine hz_call (R := fun vv ww => ∃ s9, vv = Pk.val p s9 ∧ Pk.At p s9 ww ∧ (s9.ca = none → p.codes.length = 0 ∧ s9.cc = 0)) F H rfl (ex_call rfl rfl (gx_l1 (F.e rfl) gx_l0) fn_8) ((pkto_any p s _ (hp.kept H.k) (hsP hbF).few hcn).mono fun e9 ww ⟨s9, h91, h92, h93, h94⟩ => ⟨_, h91, ⟨s9, rfl, h92, h94⟩, h93⟩) ?_; clear F H A; intro vv W A hR hk H F; obtain ⟨t10, rfl, hA10, hCt10⟩ := hR
  clear hk
  obtain ⟨w10, K10, hA10⟩ : ∃ w1, Kept No w1 W ∧ Pk.At p t10 w1 := ⟨W, Kept.refl No W, hA10⟩
  refine hz_new (c := zeroPk) (t := 33) F H rfl (ex_alloc rfl (al_33 _)) ?_; clear F A; intro b11 W A hk hN H9 F; clear H; have H := H9; clear H9
  have hN_K10_b11 := Nat.le_trans K10.size hN
  replace K10 := K10.trans hk
  clear hk hN
  obtain ⟨W9, hr, hB, hk⟩ := gx_storeAgg (P := Tryz.prog) (S := 33) (c := (Pk.cells p t10)) _ (H.b.at_ (j := 0) rfl).1 (gs_33 _) rfl (pk_one _ _)
  refine hz_st (ex_store rfl (F.e rfl) (F.e rfl) hr) ?_; clear hr; replace H : Hp _ _ [_, _] := Hp.turn [] H hk hB; replace K10 := K10.then hk (fun i9 hi9 e9 => by have e9 : i9 = b11 := e9; have := hN_K10_b11; omega); clear hk hB
  refine wpList_nil ?_
  refine hK9 _ _ ?_
  refine wp_seq_k (fun K12 hK12 => ?_)
  refine wp_region_held_drew (S := fun wx => Hp _ wx _) (by kernel_rfl) H.drew (fun H9 => ?_); clear H; have H := H9; clear H9
  replace K10 := K10.trans (Kept.refl No _).drew
  generalize World.drew _ = W at *
  refine hzh_callk (i := 0) F rfl rfl (by kernel_rfl) (ex_call rfl rfl gx_l0 fn_7) (told7_any _ (hT.kept H.k) (hN.kept H.k)) (fun _ hk => H.kept hk) ?_; clear F H A; intro W A hk H F
  replace K10 := K10.trans hk
  clear hk
  refine hzh_do (i := 1) F rfl rfl (by kernel_rfl) (fun _ _ _ h => h) H (fun wz H => (ex_move rfl (F.e rfl))) ?_; clear F A; intro A F
  refine hzh_do1 (i := 2) F rfl rfl (by kernel_rfl) (fun _ _ _ h => h) H (hw_t F rfl rfl rfl) (fun wz H => (ex_move rfl (F.e rfl))) ?_; clear F A; intro A F
  refine hzh_do1 (i := 3) F rfl rfl (by kernel_rfl) (fun _ _ _ h => h) H (hw_t F rfl rfl rfl) (fun wz H => (ex_load rfl (F.e rfl) (gl_agg ((Pk.cells p t10)) rfl (ga_33 _) (gs_33 _) (fun i => H.cs 0 rfl i)))) ?_; clear F A; intro A F
  refine hzh_do1 (i := 5) F rfl rfl (by kernel_rfl) (fun _ _ _ h => h) H (hw_t F rfl rfl rfl) (fun wz H => (ex_move rfl (F.e rfl))) ?_; clear F A; intro A F
  refine hzh_do1 (i := 6) F rfl rfl (by kernel_rfl) (fun _ _ _ h => h) H (hw_t F rfl rfl rfl) (fun wz H => (ex_load rfl (F.e rfl) (gl_agg ((Pk.cells p s)) rfl (ga_27 _) (gs_27 _) (fun i => H.cs 1 rfl i)))) ?_; clear F A; intro A F
  refine hzh_callk1 (i := 4) F rfl rfl (by kernel_rfl) (hw_t F rfl rfl rfl) (ex_call rfl rfl (gx_l1 (F.e rfl) (gx_l1 (F.e rfl) gx_l0)) fn_9) (pkRight_any v p t10 _ (hA10.kept K10) (hFit (hsP hbF)) (hT.kept H.k)) (fun _ hk => H.kept hk) ?_; clear F H A; intro W A hk H F
  replace K10 := K10.trans hk
  clear hk
  refine hzh_callk1 (i := 7) F rfl rfl (by kernel_rfl) (hw_t F rfl rfl rfl) (ex_call rfl rfl (gx_l1 (F.e rfl) (gx_l1 (F.e rfl) gx_l0)) fn_10) (rpkRight_any v p s _ (hp.kept H.k) (hFit (hsP hbF)) hcn) (fun _ hk => H.kept hk) ?_; clear F H A; intro W A hk H F
  replace K10 := K10.trans hk
  clear hk
  refine hzh_do1 (i := 8) F rfl rfl (by kernel_rfl) (fun _ _ _ h => h) H (hw_t F rfl rfl rfl) (fun wz H => (ex_bin rfl (F.e rfl) (F.e rfl) (rn_beql Tryz.underlying4))) ?_; clear F A; intro A F
  have hr16 : ((rightP v p) == (rightD v p)) = true := (by rw [right_eq v p (hFit (hsP hbF)).opt (restN_small (hsP hbF))]; simp)
  replace F := F.hd (congrArg Value.bool hr16)
  refine hzh_do (i := 9) F rfl rfl (by kernel_rfl) (fun _ _ _ h => h) H (fun wz H => (ex_pickT rfl (F.e rfl) (F.e rfl))) ?_; clear F A; intro A F
  refine hzh_do (i := 10) F rfl rfl (by kernel_rfl) (fun _ _ _ h => h) H (fun wz H => (ex_move rfl (F.e rfl))) ?_; clear F A; intro A F
  refine hzh_do1 (i := 11) F rfl rfl (by kernel_rfl) (fun _ _ _ h => h) H (hw_t F rfl rfl rfl) (fun wz H => (ex_load rfl (F.e rfl) (gl_agg ((Pk.cells p t10)) rfl (ga_33 _) (gs_33 _) (fun i => H.cs 0 rfl i)))) ?_; clear F A; intro A F
  refine hzh_do1 (i := 13) F rfl rfl (by kernel_rfl) (fun _ _ _ h => h) H (hw_t F rfl rfl rfl) (fun wz H => (ex_load rfl (F.e rfl) (gl_agg ((Pk.cells p s)) rfl (ga_27 _) (gs_27 _) (fun i => H.cs 1 rfl i)))) ?_; clear F A; intro A F
  refine hzh_call1 (i := 12) (R := fun vv ww => ∃ s9, vv = Pk.val p s9 ∧ Pk.At p s9 ww ∧ (s9.ca = none → p.codes.length = 0 ∧ s9.cc = 0)) F rfl rfl (by kernel_rfl) (hw_t F rfl rfl rfl) (ex_call rfl rfl (gx_l1 (F.e rfl) gx_l0) fn_12) ((pkfrom_any p t10 _ (hA10.kept K10) (hsP hbF).few hCt10).mono fun e9 ww ⟨s9, h91, h92, h93, h94⟩ => ⟨_, h91, ⟨s9, rfl, h92, h94⟩, h93⟩) (fun _ hk => H.kept hk) ?_; clear F H A; intro vv W A hR hk H F; obtain ⟨t17, rfl, hA17, hCt17⟩ := hR
  replace K10 := K10.trans hk
  clear hk
  obtain ⟨w17, K17, hA17⟩ : ∃ w1, Kept No w1 W ∧ Pk.At p t17 w1 := ⟨W, Kept.refl No W, hA17⟩
  refine hzh_callk1 (i := 14) F rfl rfl (by kernel_rfl) (hw_t F rfl rfl rfl) (ex_call rfl rfl (gx_l1 (F.e rfl) (gx_l1 (F.e rfl) gx_l0)) fn_11) (rpksame_any p p t17 s _ (hA17.kept K17) (hp.kept H.k) (hsP hbF).few (hsP hbF).few ⟨fun h => (hCt17 h).2⟩ ⟨fun h => (hcn h).2⟩) (fun _ hk => H.kept hk) ?_; clear F H A; intro W A hk H F
  replace K10 := K10.trans hk
  replace K17 := K17.trans hk
  clear hk
  have hr19 : (decide (p = p)) = true := (by simp)
  replace F := F.hd (congrArg Value.bool hr19)
  refine hzh_do (i := 15) F rfl rfl (by kernel_rfl) (fun _ _ _ h => h) H (fun wz H => (ex_pickT rfl (F.e rfl) (F.e rfl))) ?_; clear F A; intro A F
  refine hzh_do (i := 16) F rfl rfl (by kernel_rfl) (fun _ _ _ h => h) H (fun wz H => (ex_assign rfl (F.e rfl))) ?_; clear F A; intro A F
  refine wpAnyH_done (by kernel_rfl) ?_ _
  refine hK12 _ _ ?_
  refine gx_ret ?_
  refine (show bodyPost Tryz.prog Tryz.f3 (fun e w' => e = .returned (.bool true) ∧ Below w.heap.size w w') Exit.ret _ _ from ?_)
  exact bodyPost_ret (fn := Tryz.f3) (gx_res rfl (F.g 4 _ rfl)) F.d (⟨by first | rfl | simp, H.k.below (Nat.le_refl _) (fun _ _ f9 => f9)⟩)
theorem packetRights_full (v : Int) (p : Pk) (s : Sl) (w : World) (w0 : (Lit.int .i64 v).wf = true) (w1 : IsPk w p s) (r1 : Reach p) (hT : Tabs w) (hN : NamesAt w) :
    Calls Tryz.prog 3 #[.int .i64 v, p.val s] w fun e w' => e = .returned (.bool true) ∧ Below w.heap.size w w' :=
  packetRights_walk v p s w w1.at r1 (fun f => w1.fit r1 f) w1.hc.hnil hT hN
end Go.Proofs.YtjihgcdhheoniaaGreatDoor
