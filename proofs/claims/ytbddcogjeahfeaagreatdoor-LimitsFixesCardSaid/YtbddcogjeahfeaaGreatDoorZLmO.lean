import Derived.Test.YtbddcogjeahfeaaGreatDoorZLmT
import Derived.Test.YtbddcogjeahfeaaGreatDoorYFK
namespace Go.Proofs.YtbddcogjeahfeaaGreatDoor
open Go.RowKit
set_option linter.unusedVariables false
set_option linter.unusedSimpArgs false
set_option maxRecDepth 100000
theorem lmr {a b : Lm} {w0 w : World} {M : List Bk} (h : a = b) (H : Hp w0 w M := by assumption) : Ending.returned a.val = .returned b.val ∧ Kept No w0 w := ⟨by rw [h], H.k⟩
theorem cv16 (n : Nat) (w : World) : (convert 47 22 (.int .u32 n)).run Tryz.prog w = .ok (.int .u16 (w16 n)) w := by kernel_rfl
theorem cv8 (n : Nat) (w : World) : (convert 47 5 (.int .u32 n)).run Tryz.prog w = .ok (.int .u8 (w8 n)) w := by kernel_rfl
theorem cvI (n : Nat) (w : World) : (convert 47 3 (.int .u32 n)).run Tryz.prog w = .ok (.int .i64 (wI n)) w := by kernel_rfl
set_option maxHeartbeats 8000000 in
theorem rof_any (v : Int) (p : Pk) (s : Sl) (w : World) (hp : p.At s w) (hF : Fit p) (hl : p.props.length ≤ 100000) (hcn : s.ca = none → p.codes.length = 0 ∧ s.cc = 0) :
  Calls Tryz.prog 10 #[.int .i64 v, p.val s] w fun e w' => e = .returned (ofD v p).val ∧ Kept No w w' := by
 let RR : Ending → World → Prop := fun e w' => e = .returned (ofD v p).val ∧ Kept No w w'
 go_enter Tryz.func10, Tryz.ntmps10
 generalize hA : ({ tmps := _, defers := [] } : Act) = A
 have F : Fr A 62 [(1, (Pk.val p s)), (0, (.int .i64 v))] := by rw [← hA]; exact (Fr.cons (i := 1) (v := (Pk.val p s)) (Fr.cons (i := 0) (v := (.int .i64 v)) (Fr.nil0 rfl rfl) rfl) rfl)
 clear hA; have H := Hp.start w
 refine wp_seq_k (fun K1 hK1 => gx_region ?_)
 refine hz_new (c := (Pk.cells p s)) (t := 27) F H rfl (ex_box rfl (F.e rfl) (gx_box _ _)) ?_; clear F A; intro b2 W A hk hN H9 F; clear H; have H := H9; clear H9
 clear hk hN
 refine hz_new (c := #[(.int .u16 0), (.int .u16 0), (.int .i64 0), (.int .u8 0), (.bool false), (.bool false), (.bool false), (.bool false)]) (t := 31) F H rfl (ex_alloc rfl (al_31 _)) ?_; clear F A; intro b3 W A hk hN H9 F; clear H; have H := H9; clear H9
 clear hk hN
 refine wpList_nil (hK1 _ _ ?_)
 refine wp_seq_k (fun K4 hK4 => gx_region ?_)
 refine hz_callk F H rfl (ex_call rfl rfl gx_l0 fn_12) (rdefault_any _) ?_; clear F H A; intro W A hk H F
 clear hk
 refine hz_new (c := #[(.int .u16 0), (.int .u16 0), (.int .i64 0), (.int .u8 0), (.bool false), (.bool false), (.bool false), (.bool false)]) (t := 31) F H rfl (ex_alloc rfl (al_31 _)) ?_; clear F A; intro b6 W A hk hN H9 F; clear H; have H := H9; clear H9
 clear hk hN
 obtain ⟨W9, hr, hB, hk⟩ := gx_storeAgg (P := Tryz.prog) (S := 31) (c := #[(.int .u16 65535), (.int .u16 0), (.int .i64 268435460), (.int .u8 2), (.bool true), (.bool true), (.bool true), (.bool true)]) _ (H.b.at_ (j := 0) rfl).1 (gs_31 _) rfl (by simp [Value.oneCell'])
 refine hz_st (ex_store rfl (F.e rfl) (F.e rfl) hr) ?_; clear hr; replace H : Hp _ _ [_, _, _] := Hp.turn [] H hk hB; clear hk hB
 refine wpList_nil (hK4 _ _ ?_)
 refine wp_seq_k (fun K7 hK7 => ?_)
 refine wp_seq_k (fun K8 hK8 => gx_region ?_)
 refine zd ?_; intro A F
 refine zb (rn_neq) ?_; intro A F
 refine zd ?_; intro A F
 iterate 2 (refine zg ?_; intro A F)
 refine zgb (rn_neq) ?_; intro A F
 iterate 3 (refine zg ?_; intro A F)
 refine zgb (rn_neq) ?_; intro A F
 refine zg ?_; intro A F
 refine hz_do F rfl (ex_pickO rfl (F.e rfl) (fun hx => (F.o rfl (gnt hx))) rfl) ?_; intro A F
 refine zd ?_; intro A F
 refine zg ?_; intro A F
 refine hz_g F rfl (hw_f F rfl rfl rfl) (fun hG => (ex_load rfl (F.e rfl) (gl_agg ((Pk.cells p s)) rfl (ga_27 _) (gs_27 _) (fun i => H.cs 2 rfl i)))) ?_; intro A F
 refine hz_callg F H rfl (hw_f F rfl rfl rfl) (fun hG => (ex_call rfl rfl (gx_l1 (F.o rfl hG) (gx_l1 (F.o rfl hG) gx_l0)) fn_16)) (fun hG => rpkRight_any v p s _ (hp.kept H.k) hF hcn) ?_; clear F H A; intro W A hk H F
 clear hk
 refine zg ?_; intro A F
 refine hz_do F rfl (ex_pickO rfl (F.e rfl) (fun hx => (F.o rfl (gnt hx))) rfl) ?_; intro A F
 refine wpList_nil (hK8 _ _ ?_)
 refine zc (fun hb10 => ?_) (fun hb10 => ?_)
 ·skip
  replace F := (((F.nil.cons (F.g 5 _ rfl)).cons (F.g 4 _ rfl)).cons (F.g 3 _ rfl))
  refine wp_seq_k (fun K11 hK11 => gx_region ?_)
  refine hz_do F rfl (ex_load rfl (F.e rfl) (gl_agg (#[(.int .u16 65535), (.int .u16 0), (.int .i64 268435460), (.int .u8 2), (.bool true), (.bool true), (.bool true), (.bool true)]) rfl (ga_31 _) (gs_31 _) (fun i => H.cs 0 rfl i))) ?_; intro A F
  obtain ⟨W9, hr, hB, hk⟩ := gx_storeAgg (P := Tryz.prog) (S := 31) (c := #[(.int .u16 65535), (.int .u16 0), (.int .i64 268435460), (.int .u8 2), (.bool true), (.bool true), (.bool true), (.bool true)]) _ (H.b.at_ (j := 1) rfl).1 (gs_31 _) rfl (by simp [Value.oneCell'])
  refine hz_st (ex_store rfl (F.e rfl) (F.e rfl) hr) ?_; clear hr; replace H : Hp _ _ [_, _, _] := Hp.turn [_] H hk hB; clear hk hB
  refine wpList_nil (hK11 _ _ ?_)
  refine gx_ret ?_
  refine (show bodyPost _ Tryz.f10 RR Exit.ret _ _ from ?_)
  exact bodyPost_ret (fn := Tryz.f10) (gx_resc rfl (F.g 4 _ rfl) (gl_agg (#[(.int .u16 65535), (.int .u16 0), (.int .i64 268435460), (.int .u8 2), (.bool true), (.bool true), (.bool true), (.bool true)]) rfl (ga_31 _) (gs_31 _) (fun i => H.cs 1 rfl i))) F.d (lmr (a := ⟨65535, 0, 268435460, 2, true, true, true, true⟩) (by unfold ofD; rw [if_neg (fun h9 => by have h8 := hb10; obtain ⟨h5, hk, hr⟩ := h9; rw [hr, decide_eq_true h5] at h8; simp at h8; omega)]; rfl))
 replace F := (((F.nil.cons (F.g 5 _ rfl)).cons (F.g 4 _ rfl)).cons (F.g 3 _ rfl))
 refine wp_skip (hK7 _ _ ?_)
 refine wp_seq_k (fun K12 hK12 => ?_)
 refine wp_region_held_drew (S := fun wx => ∃ c9, Hp _ wx [⟨b6, 31, c9⟩, _, _]) (by kernel_rfl) ⟨_, H.drew⟩ (fun H9 => ?_); clear H9; replace H := H.drew
 generalize World.drew _ = W at *
 refine hzh_do (v := (Pk.val p s)) (i := 0) F rfl rfl (by kernel_rfl) (fun _ _ _ h => h) (⟨_, H⟩) (fun wz ⟨c9, H⟩ => (ex_load rfl (F.e rfl) (gl_agg ((Pk.cells p s)) rfl (ga_27 _) (gs_27 _) (fun i => H.cs 2 rfl i)))) ?_; intro A F
 refine hzh_do (v := (Pk.val p s)) (i := 3) F rfl rfl (by kernel_rfl) (fun _ _ _ h => h) (⟨_, H⟩) (fun wz ⟨c9, H⟩ => (ex_load rfl (F.e rfl) (gl_agg ((Pk.cells p s)) rfl (ga_27 _) (gs_27 _) (fun i => H.cs 2 rfl i)))) ?_; intro A F
 refine hzh_do (v := (Pk.val p s)) (i := 6) F rfl rfl (by kernel_rfl) (fun _ _ _ h => h) (⟨_, H⟩) (fun wz ⟨c9, H⟩ => (ex_load rfl (F.e rfl) (gl_agg ((Pk.cells p s)) rfl (ga_27 _) (gs_27 _) (fun i => H.cs 2 rfl i)))) ?_; intro A F
 refine hb_one (i := 1) (by kernel_rfl) (hb_callk (i := 1) F rfl rfl (ex_call rfl rfl (gx_l1 (F.e rfl) (gx_l1 gx_evc (gx_l1 gx_evc gx_l0))) fn_17) (rof13_any p s 33 65535 _ (hp.kept H.k) hl) (fun _ hk => ⟨_, (H.kept hk)⟩) ?_); clear F A; intro W A hk _ F; replace H := H.kept hk
 clear hk
 refine hzh_do (v := (.int .u16 (w16 (numL p.props 33 65535)))) (i := 2) F rfl rfl (by kernel_rfl) (fun _ _ _ h => h) (⟨_, H⟩) (fun wz ⟨c9, H⟩ => (ex_conv rfl (F.e rfl) (cv16 _ _))) ?_; intro A F
 refine td 9 ?_; intro A F
 refine hb_one (i := 4) (by kernel_rfl) (hb_callk (i := 4) F rfl rfl (ex_call rfl rfl (gx_l1 (F.e rfl) (gx_l1 gx_evc (gx_l1 gx_evc gx_l0))) fn_17) (rof13_any p s 34 0 _ (hp.kept H.k) hl) (fun _ hk => ⟨_, (H.kept hk)⟩) ?_); clear F A; intro W A hk _ F; replace H := H.kept hk
 clear hk
 refine hzh_do (v := (.int .u16 (w16 (numL p.props 34 0)))) (i := 5) F rfl rfl (by kernel_rfl) (fun _ _ _ h => h) (⟨_, H⟩) (fun wz ⟨c9, H⟩ => (ex_conv rfl (F.e rfl) (cv16 _ _))) ?_; intro A F
 refine hb_one (i := 7) (by kernel_rfl) (hb_callk (i := 7) F rfl rfl (ex_call rfl rfl (gx_l1 (F.e rfl) (gx_l1 gx_evc (gx_l1 gx_evc gx_l0))) fn_17) (rof13_any p s 39 268435460 _ (hp.kept H.k) hl) (fun _ hk => ⟨_, (H.kept hk)⟩) ?_); clear F A; intro W A hk _ F; replace H := H.kept hk
 clear hk
 refine hzh_do (v := (.int .i64 (wI (numL p.props 39 268435460)))) (i := 8) F rfl rfl (by kernel_rfl) (fun _ _ _ h => h) (⟨_, H⟩) (fun wz ⟨c9, H⟩ => (ex_conv rfl (F.e rfl) (cvI _ _))) ?_; intro A F
 refine tst 10 [] (#[(.int .u16 (w16 (numL p.props 33 65535))), (.int .u16 0), (.int .i64 268435460), (.int .u8 2), (.bool true), (.bool true), (.bool true), (.bool true)]) ?_; intro W H9 hk
 clear H hk; have H := H9; clear H9
 refine td 11 ?_; intro A F
 refine tst 12 [] (#[(.int .u16 (w16 (numL p.props 33 65535))), (.int .u16 (w16 (numL p.props 34 0))), (.int .i64 268435460), (.int .u8 2), (.bool true), (.bool true), (.bool true), (.bool true)]) ?_; intro W H9 hk
 clear H hk; have H := H9; clear H9
 refine td 13 ?_; intro A F
 refine tst 14 [] (#[(.int .u16 (w16 (numL p.props 33 65535))), (.int .u16 (w16 (numL p.props 34 0))), (.int .i64 (wI (numL p.props 39 268435460))), (.int .u8 2), (.bool true), (.bool true), (.bool true), (.bool true)]) ?_; intro W H9 hk
 clear H hk; have H := H9; clear H9
 refine wpAnyH_done (by kernel_rfl) ?_ _
 refine hK12 _ _ ?_
 refine wp_seq_k (fun K16 hK16 => ?_)
 refine wp_seq_k (fun K17 hK17 => gx_region ?_)
 iterate 2 (refine zd ?_; intro A F)
 refine zb (rn_eql) ?_; intro A F
 refine wpList_nil (hK17 _ _ ?_)
 refine zc (fun hb18 => ?_) (fun hb18 => ?_)
 ·skip
  replace F := (((F.nil.cons (F.g 5 _ rfl)).cons (F.g 4 _ rfl)).cons (F.g 3 _ rfl))
  refine wp_region_held_drew (S := fun wx => ∃ c9, Hp _ wx [⟨b6, 31, c9⟩, _, _]) (by kernel_rfl) ⟨_, H.drew⟩ (fun H9 => ?_); clear H9; replace H := H.drew
  generalize World.drew _ = W at *
  refine hzh_do (v := (Pk.val p s)) (i := 0) F rfl rfl (by kernel_rfl) (fun _ _ _ h => h) (⟨_, H⟩) (fun wz ⟨c9, H⟩ => (ex_load rfl (F.e rfl) (gl_agg ((Pk.cells p s)) rfl (ga_27 _) (gs_27 _) (fun i => H.cs 2 rfl i)))) ?_; intro A F
  refine hzh_do (v := (Pk.val p s)) (i := 3) F rfl rfl (by kernel_rfl) (fun _ _ _ h => h) (⟨_, H⟩) (fun wz ⟨c9, H⟩ => (ex_load rfl (F.e rfl) (gl_agg ((Pk.cells p s)) rfl (ga_27 _) (gs_27 _) (fun i => H.cs 2 rfl i)))) ?_; intro A F
  refine hzh_do (v := (Pk.val p s)) (i := 6) F rfl rfl (by kernel_rfl) (fun _ _ _ h => h) (⟨_, H⟩) (fun wz ⟨c9, H⟩ => (ex_load rfl (F.e rfl) (gl_agg ((Pk.cells p s)) rfl (ga_27 _) (gs_27 _) (fun i => H.cs 2 rfl i)))) ?_; intro A F
  refine hzh_do (v := (Pk.val p s)) (i := 9) F rfl rfl (by kernel_rfl) (fun _ _ _ h => h) (⟨_, H⟩) (fun wz ⟨c9, H⟩ => (ex_load rfl (F.e rfl) (gl_agg ((Pk.cells p s)) rfl (ga_27 _) (gs_27 _) (fun i => H.cs 2 rfl i)))) ?_; intro A F
  refine hzh_do (v := (Pk.val p s)) (i := 12) F rfl rfl (by kernel_rfl) (fun _ _ _ h => h) (⟨_, H⟩) (fun wz ⟨c9, H⟩ => (ex_load rfl (F.e rfl) (gl_agg ((Pk.cells p s)) rfl (ga_27 _) (gs_27 _) (fun i => H.cs 2 rfl i)))) ?_; intro A F
  refine hb_one (i := 1) (by kernel_rfl) (hb_callk (i := 1) F rfl rfl (ex_call rfl rfl (gx_l1 (F.e rfl) (gx_l1 gx_evc (gx_l1 gx_evc gx_l0))) fn_17) (rof13_any p s 36 2 _ (hp.kept H.k) hl) (fun _ hk => ⟨_, (H.kept hk)⟩) ?_); clear F A; intro W A hk _ F; replace H := H.kept hk
  clear hk
  refine hzh_do (v := (.int .u8 (w8 (numL p.props 36 2)))) (i := 2) F rfl rfl (by kernel_rfl) (fun _ _ _ h => h) (⟨_, H⟩) (fun wz ⟨c9, H⟩ => (ex_conv rfl (F.e rfl) (cv8 _ _))) ?_; intro A F
  refine td 15 ?_; intro A F
  refine hb_one (i := 4) (by kernel_rfl) (hb_callk (i := 4) F rfl rfl (ex_call rfl rfl (gx_l1 (F.e rfl) (gx_l1 gx_evc (gx_l1 gx_evc gx_l0))) fn_17) (rof13_any p s 37 1 _ (hp.kept H.k) hl) (fun _ hk => ⟨_, (H.kept hk)⟩) ?_); clear F A; intro W A hk _ F; replace H := H.kept hk
  clear hk
  refine hzh_do (v := (.bool (!decide (numL p.props 37 1 = 0)))) (i := 5) F rfl rfl (by kernel_rfl) (fun _ _ _ h => h) (⟨_, H⟩) (fun wz ⟨c9, H⟩ => (ex_bin rfl (F.e rfl) gx_evc (rn_neqN (i := numL p.props 37 1) (j := 0)))) ?_; intro A F
  refine hb_one (i := 7) (by kernel_rfl) (hb_callk (i := 7) F rfl rfl (ex_call rfl rfl (gx_l1 (F.e rfl) (gx_l1 gx_evc (gx_l1 gx_evc gx_l0))) fn_17) (rof13_any p s 40 1 _ (hp.kept H.k) hl) (fun _ hk => ⟨_, (H.kept hk)⟩) ?_); clear F A; intro W A hk _ F; replace H := H.kept hk
  clear hk
  refine hzh_do (v := (.bool (!decide (numL p.props 40 1 = 0)))) (i := 8) F rfl rfl (by kernel_rfl) (fun _ _ _ h => h) (⟨_, H⟩) (fun wz ⟨c9, H⟩ => (ex_bin rfl (F.e rfl) gx_evc (rn_neqN (i := numL p.props 40 1) (j := 0)))) ?_; intro A F
  refine hb_one (i := 10) (by kernel_rfl) (hb_callk (i := 10) F rfl rfl (ex_call rfl rfl (gx_l1 (F.e rfl) (gx_l1 gx_evc (gx_l1 gx_evc gx_l0))) fn_17) (rof13_any p s 41 1 _ (hp.kept H.k) hl) (fun _ hk => ⟨_, (H.kept hk)⟩) ?_); clear F A; intro W A hk _ F; replace H := H.kept hk
  clear hk
  refine hzh_do (v := (.bool (!decide (numL p.props 41 1 = 0)))) (i := 11) F rfl rfl (by kernel_rfl) (fun _ _ _ h => h) (⟨_, H⟩) (fun wz ⟨c9, H⟩ => (ex_bin rfl (F.e rfl) gx_evc (rn_neqN (i := numL p.props 41 1) (j := 0)))) ?_; intro A F
  refine hb_one (i := 13) (by kernel_rfl) (hb_callk (i := 13) F rfl rfl (ex_call rfl rfl (gx_l1 (F.e rfl) (gx_l1 gx_evc (gx_l1 gx_evc gx_l0))) fn_17) (rof13_any p s 42 1 _ (hp.kept H.k) hl) (fun _ hk => ⟨_, (H.kept hk)⟩) ?_); clear F A; intro W A hk _ F; replace H := H.kept hk
  clear hk
  refine hzh_do (v := (.bool (!decide (numL p.props 42 1 = 0)))) (i := 14) F rfl rfl (by kernel_rfl) (fun _ _ _ h => h) (⟨_, H⟩) (fun wz ⟨c9, H⟩ => (ex_bin rfl (F.e rfl) gx_evc (rn_neqN (i := numL p.props 42 1) (j := 0)))) ?_; intro A F
  refine tst 16 [] (#[(.int .u16 (w16 (numL p.props 33 65535))), (.int .u16 (w16 (numL p.props 34 0))), (.int .i64 (wI (numL p.props 39 268435460))), (.int .u8 (w8 (numL p.props 36 2))), (.bool true), (.bool true), (.bool true), (.bool true)]) ?_; intro W H9 hk
  clear H hk; have H := H9; clear H9
  refine td 17 ?_; intro A F
  refine tst 18 [] (#[(.int .u16 (w16 (numL p.props 33 65535))), (.int .u16 (w16 (numL p.props 34 0))), (.int .i64 (wI (numL p.props 39 268435460))), (.int .u8 (w8 (numL p.props 36 2))), (.bool (!decide (numL p.props 37 1 = 0))), (.bool true), (.bool true), (.bool true)]) ?_; intro W H9 hk
  clear H hk; have H := H9; clear H9
  refine td 19 ?_; intro A F
  refine tst 20 [] (#[(.int .u16 (w16 (numL p.props 33 65535))), (.int .u16 (w16 (numL p.props 34 0))), (.int .i64 (wI (numL p.props 39 268435460))), (.int .u8 (w8 (numL p.props 36 2))), (.bool (!decide (numL p.props 37 1 = 0))), (.bool (!decide (numL p.props 40 1 = 0))), (.bool true), (.bool true)]) ?_; intro W H9 hk
  clear H hk; have H := H9; clear H9
  refine td 21 ?_; intro A F
  refine tst 22 [] (#[(.int .u16 (w16 (numL p.props 33 65535))), (.int .u16 (w16 (numL p.props 34 0))), (.int .i64 (wI (numL p.props 39 268435460))), (.int .u8 (w8 (numL p.props 36 2))), (.bool (!decide (numL p.props 37 1 = 0))), (.bool (!decide (numL p.props 40 1 = 0))), (.bool (!decide (numL p.props 41 1 = 0))), (.bool true)]) ?_; intro W H9 hk
  clear H hk; have H := H9; clear H9
  refine td 23 ?_; intro A F
  refine tst 24 [] (#[(.int .u16 (w16 (numL p.props 33 65535))), (.int .u16 (w16 (numL p.props 34 0))), (.int .i64 (wI (numL p.props 39 268435460))), (.int .u8 (w8 (numL p.props 36 2))), (.bool (!decide (numL p.props 37 1 = 0))), (.bool (!decide (numL p.props 40 1 = 0))), (.bool (!decide (numL p.props 41 1 = 0))), (.bool (!decide (numL p.props 42 1 = 0)))]) ?_; intro W H9 hk
  clear H hk; have H := H9; clear H9
  refine wpAnyH_done (by kernel_rfl) ?_ _
  refine hK16 _ _ ?_
  refine wp_seq_k (fun K24 hK24 => gx_region ?_)
  refine hz_do F rfl (ex_load rfl (F.e rfl) (gl_agg (#[(.int .u16 (w16 (numL p.props 33 65535))), (.int .u16 (w16 (numL p.props 34 0))), (.int .i64 (wI (numL p.props 39 268435460))), (.int .u8 (w8 (numL p.props 36 2))), (.bool (!decide (numL p.props 37 1 = 0))), (.bool (!decide (numL p.props 40 1 = 0))), (.bool (!decide (numL p.props 41 1 = 0))), (.bool (!decide (numL p.props 42 1 = 0)))]) rfl (ga_31 _) (gs_31 _) (fun i => H.cs 0 rfl i))) ?_; intro A F
  obtain ⟨W9, hr, hB, hk⟩ := gx_storeAgg (P := Tryz.prog) (S := 31) (c := #[(.int .u16 (w16 (numL p.props 33 65535))), (.int .u16 (w16 (numL p.props 34 0))), (.int .i64 (wI (numL p.props 39 268435460))), (.int .u8 (w8 (numL p.props 36 2))), (.bool (!decide (numL p.props 37 1 = 0))), (.bool (!decide (numL p.props 40 1 = 0))), (.bool (!decide (numL p.props 41 1 = 0))), (.bool (!decide (numL p.props 42 1 = 0)))]) _ (H.b.at_ (j := 1) rfl).1 (gs_31 _) rfl (by simp [Value.oneCell'])
  refine hz_st (ex_store rfl (F.e rfl) (F.e rfl) hr) ?_; clear hr; replace H : Hp _ _ [_, _, _] := Hp.turn [_] H hk hB; clear hk hB
  refine wpList_nil (hK24 _ _ ?_)
  refine gx_ret ?_
  refine (show bodyPost _ Tryz.f10 RR Exit.ret _ _ from ?_)
  exact bodyPost_ret (fn := Tryz.f10) (gx_resc rfl (F.g 4 _ rfl) (gl_agg (#[(.int .u16 (w16 (numL p.props 33 65535))), (.int .u16 (w16 (numL p.props 34 0))), (.int .i64 (wI (numL p.props 39 268435460))), (.int .u8 (w8 (numL p.props 36 2))), (.bool (!decide (numL p.props 37 1 = 0))), (.bool (!decide (numL p.props 40 1 = 0))), (.bool (!decide (numL p.props 41 1 = 0))), (.bool (!decide (numL p.props 42 1 = 0)))]) rfl (ga_31 _) (gs_31 _) (fun i => H.cs 1 rfl i))) F.d (lmr (a := ⟨w16 (numL p.props 33 65535), w16 (numL p.props 34 0), wI (numL p.props 39 268435460), w8 (numL p.props 36 2), !decide (numL p.props 37 1 = 0), !decide (numL p.props 40 1 = 0), !decide (numL p.props 41 1 = 0), !decide (numL p.props 42 1 = 0)⟩) (by unfold ofD; rw [if_pos (show v = 5 ∧ (p.kind = 1 ∨ p.kind = 2) ∧ rightD v p = true from by have h8 := hb10; simp at h8; grind), if_pos (of_decide_eq_true hb18)]; rfl))
 replace F := (((F.nil.cons (F.g 5 _ rfl)).cons (F.g 4 _ rfl)).cons (F.g 3 _ rfl))
 refine wp_skip (hK16 _ _ ?_)
 refine wp_seq_k (fun K25 hK25 => gx_region ?_)
 refine hz_do F rfl (ex_load rfl (F.e rfl) (gl_agg (#[(.int .u16 (w16 (numL p.props 33 65535))), (.int .u16 (w16 (numL p.props 34 0))), (.int .i64 (wI (numL p.props 39 268435460))), (.int .u8 2), (.bool true), (.bool true), (.bool true), (.bool true)]) rfl (ga_31 _) (gs_31 _) (fun i => H.cs 0 rfl i))) ?_; intro A F
 obtain ⟨W9, hr, hB, hk⟩ := gx_storeAgg (P := Tryz.prog) (S := 31) (c := #[(.int .u16 (w16 (numL p.props 33 65535))), (.int .u16 (w16 (numL p.props 34 0))), (.int .i64 (wI (numL p.props 39 268435460))), (.int .u8 2), (.bool true), (.bool true), (.bool true), (.bool true)]) _ (H.b.at_ (j := 1) rfl).1 (gs_31 _) rfl (by simp [Value.oneCell'])
 refine hz_st (ex_store rfl (F.e rfl) (F.e rfl) hr) ?_; clear hr; replace H : Hp _ _ [_, _, _] := Hp.turn [_] H hk hB; clear hk hB
 refine wpList_nil (hK25 _ _ ?_)
 refine gx_ret ?_
 refine (show bodyPost _ Tryz.f10 RR Exit.ret _ _ from ?_)
 exact bodyPost_ret (fn := Tryz.f10) (gx_resc rfl (F.g 4 _ rfl) (gl_agg (#[(.int .u16 (w16 (numL p.props 33 65535))), (.int .u16 (w16 (numL p.props 34 0))), (.int .i64 (wI (numL p.props 39 268435460))), (.int .u8 2), (.bool true), (.bool true), (.bool true), (.bool true)]) rfl (ga_31 _) (gs_31 _) (fun i => H.cs 1 rfl i))) F.d (lmr (a := ⟨w16 (numL p.props 33 65535), w16 (numL p.props 34 0), wI (numL p.props 39 268435460), 2, true, true, true, true⟩) (by unfold ofD; rw [if_pos (show v = 5 ∧ (p.kind = 1 ∨ p.kind = 2) ∧ rightD v p = true from by have h8 := hb10; simp at h8; grind), if_neg (of_decide_eq_false hb18)]; rfl))
end Go.Proofs.YtbddcogjeahfeaaGreatDoor
