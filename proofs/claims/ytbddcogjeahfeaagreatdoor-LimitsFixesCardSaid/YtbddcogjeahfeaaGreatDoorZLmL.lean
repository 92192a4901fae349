import Derived.Test.YtbddcogjeahfeaaGreatDoorZLmD
import Derived.Test.YtbddcogjeahfeaaGreatDoorZH9b
namespace Go.Proofs.YtbddcogjeahfeaaGreatDoor
open Go.RowKit
set_option linter.unusedVariables false
set_option linter.unusedSimpArgs false
set_option maxRecDepth 100000
theorem rof_same (v : Int) (p : Pk) (s : Sl) (w : World) (hp : p.At s w) (hF : Fit p) (hS : Small p) (hcn : s.ca = none → p.codes.length = 0 ∧ s.cc = 0) :
  Calls Tryz.prog 10 #[.int .i64 v, p.val s] w fun e w' => e = .returned (ofP v p).val ∧ Kept No w w' := by
 rw [of_eq v p (right_eq v p hF.opt (restN_small hS))]
 exact rof_any v p s w hp hF hF.few.hp hcn
set_option maxHeartbeats 8000000 in
theorem limitsOf_walk (v : Int) (p : Pk) (s : Sl) (w : World) (hp : p.At s w) (hR : Reach p) (hFit : Small p → Fit p) (hcn : s.ca = none → p.codes.length = 0 ∧ s.cc = 0) (hT : Tabs w) :
  Calls Tryz.prog 3 #[.int .i64 v, p.val s] w fun e w' => e = .returned (.bool true) ∧ Below w.heap.size w w' := by
 let RR : Ending → World → Prop := fun e w' => e = .returned (.bool true) ∧ Below w.heap.size w w'
 go_enter Tryz.func3, Tryz.ntmps3
 generalize hA : ({ tmps := _, defers := [] } : Act) = A
 have F : Fr A 21 [(1, (Pk.val p s)), (0, (.int .i64 v))] := by rw [← hA]; exact (Fr.cons (i := 1) (v := (Pk.val p s)) (Fr.cons (i := 0) (v := (.int .i64 v)) (Fr.nil0 rfl rfl) rfl) rfl)
 clear hA; have H := Hp.start w
 refine wp_seq_k (fun K1 hK1 => gx_region ?_)
 refine hz_new (c := (Pk.cells p s)) (t := 27) F H rfl (ex_box rfl (F.e rfl) (gx_box _ _)) ?_; clear F A; intro b2 W A hk hN H9 F; clear H; have H := H9; clear H9
 clear hk hN
 refine zd ?_; intro A F
 refine wpList_nil (hK1 _ _ ?_)
 refine wp_seq_k (fun K3 hK3 => ?_)
 refine wp_seq_k (fun K4 hK4 => gx_region ?_)
 refine hz_do F rfl (ex_load rfl (F.e rfl) (gl_agg ((Pk.cells p s)) rfl (ga_27 _) (gs_27 _) (fun i => H.cs 0 rfl i))) ?_; intro A F
 refine hz_call (R := fun vv ww => ∃ b9, vv = .bool b9 ∧ (b9 = true → Small p)) F H rfl (ex_call rfl rfl (gx_l1 (F.e rfl) gx_l0) fn_5) ((few_any p s _ (hp.kept H.k) hR).mono fun e9 ww ⟨b9, h91, h92, h93⟩ => ⟨_, h91, ⟨b9, rfl, h92⟩, h93⟩) ?_; clear F H A; intro vv W A hR hk H F; obtain ⟨bP, rfl, hsP⟩ := hR
 clear hk
 refine zd ?_; intro A F
 refine wpList_nil (hK4 _ _ ?_)
 refine zc (fun hb6 => ?_) (fun hb6 => ?_)
 ·skip
  refine wp_seq_k (fun K7 hK7 => gx_region ?_)
  refine hz_callk F H rfl (ex_call rfl rfl gx_l0 fn_6) (told13_any _ (hT.kept H.k)) ?_; clear F H A; intro W A hk H F
  clear hk
  refine zd ?_; intro A F
  refine wpList_nil (hK7 _ _ ?_)
  refine gx_ret ?_
  refine (show bodyPost _ Tryz.f3 RR Exit.ret _ _ from zr ?_)
  exact ⟨by first | rfl | simp, H.k.below (Nat.le_refl _) (fun _ _ f9 => f9)⟩
 refine wp_skip (hK3 _ _ ?_)
 refine wp_seq_k (fun K9 hK9 => ?_)
 have hbF : bP = true := by have h6 := hb6; revert h6; cases bP <;> simp
 refine wp_region_held_drew (S := fun wx => Hp _ wx _) (by kernel_rfl) H.drew (fun H9 => ?_); clear H; have H := H9; clear H9
 generalize World.drew _ = W at *
 refine hb_one (i := 0) (by kernel_rfl) (hb_callk (i := 0) F rfl rfl (ex_call rfl rfl gx_l0 fn_6) (told13_any _ (hT.kept H.k)) (fun _ hk => (H.kept hk)) ?_); clear F A; intro W A hk _ F; replace H := H.kept hk
 clear hk
 refine td 1 ?_; intro A F
 refine hzh_do1 (i := 2) F rfl rfl (by kernel_rfl) (fun _ _ _ h => h) (H) (hw_t F rfl rfl rfl) (fun wz H => (ex_move rfl (F.e rfl))) ?_; intro A F
 refine hzh_do1 (i := 3) F rfl rfl (by kernel_rfl) (fun _ _ _ h => h) (H) (hw_t F rfl rfl rfl) (fun wz H => (ex_load rfl (F.e rfl) (gl_agg ((Pk.cells p s)) rfl (ga_27 _) (gs_27 _) (fun i => H.cs 0 rfl i)))) ?_; intro A F
 refine hzh_do1 (i := 7) F rfl rfl (by kernel_rfl) (fun _ _ _ h => h) (H) (hw_t F rfl rfl rfl) (fun wz H => (ex_move rfl (F.e rfl))) ?_; intro A F
 refine hzh_do1 (i := 8) F rfl rfl (by kernel_rfl) (fun _ _ _ h => h) (H) (hw_t F rfl rfl rfl) (fun wz H => (ex_load rfl (F.e rfl) (gl_agg ((Pk.cells p s)) rfl (ga_27 _) (gs_27 _) (fun i => H.cs 0 rfl i)))) ?_; intro A F
 refine hzh_call1 (i := 4) (R := fun vv ww => ∃ s9, vv = Pk.val p s9 ∧ Pk.At p s9 ww ∧ (s9.ca = none → p.codes.length = 0 ∧ s9.cc = 0)) F rfl rfl (by kernel_rfl) (hw_t F rfl rfl rfl) (ex_call rfl rfl (gx_l1 (F.e rfl) gx_l0) fn_9) ((pkto2_any p s _ (hp.kept H.k) (hsP hbF).few hcn).mono fun e9 ww ⟨s9, h91, h92, h93, h94⟩ => ⟨_, h91, ⟨s9, rfl, h92, h94⟩, h93⟩) (fun _ hk => H.kept hk) ?_; clear F H A; intro vv W A hR hk H F; obtain ⟨t11, rfl, hA11, hCt11⟩ := hR
 clear hk
 obtain ⟨w11, K11, hA11⟩ : ∃ w1, Kept No w1 W ∧ Pk.At p t11 w1 := ⟨W, Kept.refl No W, hA11⟩
 refine hzh_callk1 (i := 5) F rfl rfl (by kernel_rfl) (hw_t F rfl rfl rfl) (ex_call rfl rfl (gx_l1 (F.e rfl) (gx_l1 (F.e rfl) gx_l0)) fn_8) (of_any v p t11 _ (hA11.kept K11) (hFit (hsP hbF)) (hFit (hsP hbF)).few.hp (hT.kept H.k)) (fun _ hk => H.kept hk) ?_; clear F H A; intro W A hk H F
 replace K11 := K11.trans hk
 clear hk
 refine hzh_callk1 (i := 6) F rfl rfl (by kernel_rfl) (hw_t F rfl rfl rfl) (ex_call rfl rfl (gx_l1 (F.e rfl) gx_l0) fn_7) (from13_any (ofP v p) _) (fun _ hk => H.kept hk) ?_; clear F H A; intro W A hk H F
 replace K11 := K11.trans hk
 clear hk
 refine hzh_callk1 (i := 9) F rfl rfl (by kernel_rfl) (hw_t F rfl rfl rfl) (ex_call rfl rfl (gx_l1 (F.e rfl) (gx_l1 (F.e rfl) gx_l0)) fn_10) (rof_same v p s _ (hp.kept H.k) (hFit (hsP hbF)) (hsP hbF) hcn) (fun _ hk => H.kept hk) ?_; clear F H A; intro W A hk H F
 replace K11 := K11.trans hk
 clear hk
 refine hzh_do1 (i := 10) F rfl rfl (by kernel_rfl) (fun _ _ _ h => h) (H) (hw_t F rfl rfl rfl) (fun wz H => (ex_bin rfl (F.e rfl) (F.e rfl) (rn_lm (ofP v p) _))) ?_; intro A F
 refine hzh_do (i := 11) F rfl rfl (by kernel_rfl) (fun _ _ _ h => h) (H) (fun wz H => (ex_pickT rfl (F.e rfl) (F.e rfl))) ?_; intro A F
 refine td 12 ?_; intro A F
 refine wpAnyH_done (by kernel_rfl) ?_ _
 refine hK9 _ _ ?_
 refine gx_ret ?_
 refine (show bodyPost _ Tryz.f3 RR Exit.ret _ _ from zr ?_)
 exact ⟨by first | rfl | simp, H.k.below (Nat.le_refl _) (fun _ _ f9 => f9)⟩
theorem limitsOf_full (v : Int) (p : Pk) (s : Sl) (w : World) (w0 : (Lit.int .i64 v).wf = true) (w1 : IsPk w p s) (r1 : Reach p) (hT : Tabs w) :
  Calls Tryz.prog 3 #[.int .i64 v, p.val s] w fun e w' => e = .returned (.bool true) ∧ Below w.heap.size w w' :=
 limitsOf_walk v p s w w1.at r1 (fun f => w1.fit r1 f) w1.hc.hnil hT
end Go.Proofs.YtbddcogjeahfeaaGreatDoor
