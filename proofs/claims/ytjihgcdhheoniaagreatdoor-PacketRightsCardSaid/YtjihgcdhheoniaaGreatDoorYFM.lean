/-
  Contracts and plain facts, one behind the other: H8e.
-/
import Derived.Test.YtjihgcdhheoniaaGreatDoorYFI
import Derived.Test.YtjihgcdhheoniaaGreatDoorYFN
import Derived.Test.YtjihgcdhheoniaaGreatDoorYFJ
import Derived.Test.YtjihgcdhheoniaaGreatDoorYFB
/-
  The document's Bare, connect, publish, lists.
-/
namespace Go.Proofs.YtjihgcdhheoniaaGreatDoor
open Go.RowKit
set_option linter.unusedVariables false
set_option linter.unusedSimpArgs false
set_option maxRecDepth 100000

theorem refRightK (s : ByteArray) (w : World) (hs : s.size ≤ 9223372036854775807) : Calls Tryz.prog 63 #[.string s] w fun e w' => e = .returned (.bool (okText s)) ∧ Kept No w w' := (refRight_any s w hs).mono fun e9 ww h9 => ⟨h9.1, h9.2 ▸ Kept.refl No _⟩
set_option maxHeartbeats 1000000 in
theorem rbare_any (p : Pk) (s : Sl) (w : World) (hp : p.At s w) :
    Calls Tryz.prog 15 #[p.val s] w fun e w' => e = .returned (Pk.val (bareP p) (ownSl p s)) ∧ Kept No w w' := by
  go_enter Tryz.func15, Tryz.ntmps15
  generalize hA : ({ tmps := _, defers := [] } : Act) = A
  have F : Fr A 141 [(0, (Pk.val p s))] := by rw [← hA]; exact (Fr.cons (i := 0) (v := (Pk.val p s)) (Fr.nil0 rfl rfl) rfl)
  clear hA; have H := Hp.start w
  refine wp_seq_k (fun K1 hK1 => ?_)
  refine gx_region ?_
  refine hz_new (c := (Pk.cells p s)) (t := 27) F H rfl (ex_box rfl (F.e rfl) (gx_box _ _)) ?_; clear F A; intro b2 W A hk hN H9 F; clear H; have H := H9; clear H9
  clear hk hN
  refine hz_new (c := zeroPk) (t := 27) F H rfl (ex_alloc rfl (al_27 _)) ?_; clear F A; intro b3 W A hk hN H9 F; clear H; have H := H9; clear H9
  clear hk hN
  refine wpList_nil ?_
  refine hK1 _ _ ?_
  refine wp_seq_k (fun K4 hK4 => ?_)
  refine gx_region ?_
  refine hz_fld F rfl rfl (F.e rfl) (fa_27_0 _ _ _) (ag_3 _) (H.c 1 rfl rfl) ?_; clear F A; intro A F
  refine hz_do (v := (Pk.val ((zk p.kind)) ((⟨none, 0, none, 0, none, 0, none, 0⟩ : Sl)))) F rfl (ex_build rfl (gx_p1 (F.e rfl) gx_p0) (by kernel_rfl)) ?_; clear F A; intro A F
  refine hz_new (c := zeroPk) (t := 27) F H rfl (ex_alloc rfl (al_27 _)) ?_; clear F A; intro b5 W A hk hN H9 F; clear H; have H := H9; clear H9
  clear hk hN
  obtain ⟨W9, hr, hB, hk⟩ := gx_storeAgg (P := Tryz.prog) (S := 27) (c := (Pk.cells ((zk p.kind)) ((⟨none, 0, none, 0, none, 0, none, 0⟩ : Sl)))) _ (H.b.at_ (j := 0) rfl).1 (gs_27 _) rfl (pk_one _ _)
  refine hz_st (ex_store rfl (F.e rfl) (F.e rfl) hr) ?_; clear hr; replace H : Hp _ _ [_, _, _] := Hp.turn [] H hk hB; clear hk hB
  refine wpList_nil ?_
  refine hK4 _ _ ?_
  refine wp_seq_k (fun K6 hK6 => ?_)
  refine wp_seq_k (fun K7 hK7 => ?_)
  refine gx_region ?_
  refine hz_fld F rfl rfl (F.e rfl) (fa_27_0 _ _ _) (ag_3 _) (H.c 2 rfl rfl) ?_; clear F A; intro A F
  refine wpList_nil ?_
  refine hK7 _ _ ?_
  refine wp_block ?_
  refine wp_seq_k (fun K8 hK8 => ?_)
  refine gx_region ?_
  refine hz_do F rfl (ex_bin rfl (F.e rfl) gx_evc (rn_eql)) ?_; clear F A; intro A F
  refine hz_do F rfl (ex_assign rfl (F.e rfl)) ?_; clear F A; intro A F
  refine wpList_nil ?_
  refine hK8 _ _ ?_
  refine hz_cond (F.e rfl) (fun hb9 => ?_) (fun hb9 => ?_)
  · skip
    refine wp_seq_k (fun K10 hK10 => ?_)
    refine wp_region_held_drew (S := fun wx => ∃ c9, Hp _ wx [⟨b5, 27, c9⟩, _, _]) (by kernel_rfl) ⟨_, H.drew⟩ (fun H9 => ?_); clear H9; replace H := H.drew
    generalize World.drew _ = W at *
    refine hzh_do (v := (.pointer (some ⟨b2, 5, none⟩))) (i := 0) F rfl rfl (by kernel_rfl) (fun _ _ _ h => h) ⟨_, H⟩ (fun wz ⟨c9, H⟩ => (ex_faddr rfl (F.e rfl) (fa_27_5 _ _ _))) ?_; clear F A; intro A F
    refine hzh_do (v := (.bool p.clean)) (i := 1) F rfl rfl (by kernel_rfl) (fun _ _ _ h => h) ⟨_, H⟩ (fun wz ⟨c9, H⟩ => (ex_load rfl (F.e rfl) (gl_one (ag_4 _) (H.c 2 rfl rfl)))) ?_; clear F A; intro A F
    refine hzh_do (v := (.pointer (some ⟨b2, 6, none⟩))) (i := 2) F rfl rfl (by kernel_rfl) (fun _ _ _ h => h) ⟨_, H⟩ (fun wz ⟨c9, H⟩ => (ex_faddr rfl (F.e rfl) (fa_27_6 _ _ _))) ?_; clear F A; intro A F
    refine hzh_do (v := (.int .u16 ((p.keep : Int)))) (i := 3) F rfl rfl (by kernel_rfl) (fun _ _ _ h => h) ⟨_, H⟩ (fun wz ⟨c9, H⟩ => (ex_load rfl (F.e rfl) (gl_one (ag_22 _) (H.c 2 rfl rfl)))) ?_; clear F A; intro A F
    refine hzh_do (v := (.pointer (some ⟨b2, 24, none⟩))) (i := 4) F rfl rfl (by kernel_rfl) (fun _ _ _ h => h) ⟨_, H⟩ (fun wz ⟨c9, H⟩ => (ex_faddr rfl (F.e rfl) (fa_27_24 _ _ _))) ?_; clear F A; intro A F
    refine hzh_do (v := (.slice s.pa p.props.length s.pc)) (i := 5) F rfl rfl (by kernel_rfl) (fun _ _ _ h => h) ⟨_, H⟩ (fun wz ⟨c9, H⟩ => (ex_load rfl (F.e rfl) (gl_one (ag_23 _) (H.c 2 rfl rfl)))) ?_; clear F A; intro A F
    refine hzh_do (v := (.pointer (some ⟨b2, 7, none⟩))) (i := 6) F rfl rfl (by kernel_rfl) (fun _ _ _ h => h) ⟨_, H⟩ (fun wz ⟨c9, H⟩ => (ex_faddr rfl (F.e rfl) (fa_27_7 _ _ _))) ?_; clear F A; intro A F
    refine hzh_do (v := (.string p.client)) (i := 7) F rfl rfl (by kernel_rfl) (fun _ _ _ h => h) ⟨_, H⟩ (fun wz ⟨c9, H⟩ => (ex_load rfl (F.e rfl) (gl_one (ag_9 _) (H.c 2 rfl rfl)))) ?_; clear F A; intro A F
    refine hzh_do (v := (.pointer (some ⟨b2, 8, none⟩))) (i := 8) F rfl rfl (by kernel_rfl) (fun _ _ _ h => h) ⟨_, H⟩ (fun wz ⟨c9, H⟩ => (ex_faddr rfl (F.e rfl) (fa_27_8 _ _ _))) ?_; clear F A; intro A F
    refine hzh_do (v := (.bool p.hasWill)) (i := 9) F rfl rfl (by kernel_rfl) (fun _ _ _ h => h) ⟨_, H⟩ (fun wz ⟨c9, H⟩ => (ex_load rfl (F.e rfl) (gl_one (ag_4 _) (H.c 2 rfl rfl)))) ?_; clear F A; intro A F
    refine hzh_do (v := (.pointer (some ⟨b2, 9, none⟩))) (i := 10) F rfl rfl (by kernel_rfl) (fun _ _ _ h => h) ⟨_, H⟩ (fun wz ⟨c9, H⟩ => (ex_faddr rfl (F.e rfl) (fa_27_9 _ _ _))) ?_; clear F A; intro A F
    refine hzh_do (v := (.bool p.hasUser)) (i := 11) F rfl rfl (by kernel_rfl) (fun _ _ _ h => h) ⟨_, H⟩ (fun wz ⟨c9, H⟩ => (ex_load rfl (F.e rfl) (gl_one (ag_4 _) (H.c 2 rfl rfl)))) ?_; clear F A; intro A F
    refine hzh_do (v := (.pointer (some ⟨b2, 10, none⟩))) (i := 12) F rfl rfl (by kernel_rfl) (fun _ _ _ h => h) ⟨_, H⟩ (fun wz ⟨c9, H⟩ => (ex_faddr rfl (F.e rfl) (fa_27_10 _ _ _))) ?_; clear F A; intro A F
    refine hzh_do (v := (.bool p.hasPass)) (i := 13) F rfl rfl (by kernel_rfl) (fun _ _ _ h => h) ⟨_, H⟩ (fun wz ⟨c9, H⟩ => (ex_load rfl (F.e rfl) (gl_one (ag_4 _) (H.c 2 rfl rfl)))) ?_; clear F A; intro A F
    refine hzh_do (v := (.pointer (some ⟨b5, 5, none⟩))) (i := 14) F rfl rfl (by kernel_rfl) (fun _ _ _ h => h) ⟨_, H⟩ (fun wz ⟨c9, H⟩ => (ex_faddr rfl (F.e rfl) (fa_27_5 _ _ _))) ?_; clear F A; intro A F
    obtain ⟨W9, hr, hB, hk⟩ := gx_set (P := Tryz.prog) (T := 4) (i := 5) (v := (.bool p.clean)) (c' := (Pk.cells ({ (zk p.kind) with clean := p.clean }) ((⟨none, 0, none, 0, none, 0, none, 0⟩ : Sl)))) _ (H.b.at_ (j := 0) rfl).1 (gs1_4 _) rfl (by simp [Pk.cells, zeroPk]) rfl
    replace H : Hp _ _ [_, _, _] := Hp.turn [] H hk hB; clear hk hB; refine gxh_st (i := 15) rfl (by kernel_rfl) (gx_w rfl) rfl (ex_store rfl (F.e rfl) (F.e rfl) hr) ⟨_, H⟩ ?_; clear hr
    refine hzh_do (v := (.pointer (some ⟨b5, 6, none⟩))) (i := 16) F rfl rfl (by kernel_rfl) (fun _ _ _ h => h) ⟨_, H⟩ (fun wz ⟨c9, H⟩ => (ex_faddr rfl (F.e rfl) (fa_27_6 _ _ _))) ?_; clear F A; intro A F
    obtain ⟨W9, hr, hB, hk⟩ := gx_set (P := Tryz.prog) (T := 22) (i := 6) (v := (.int .u16 ((p.keep : Int)))) (c' := (Pk.cells ({ { (zk p.kind) with clean := p.clean } with keep := p.keep }) ((⟨none, 0, none, 0, none, 0, none, 0⟩ : Sl)))) _ (H.b.at_ (j := 0) rfl).1 (gs1_22 _) rfl (by simp [Pk.cells, zeroPk]) rfl
    replace H : Hp _ _ [_, _, _] := Hp.turn [] H hk hB; clear hk hB; refine gxh_st (i := 17) rfl (by kernel_rfl) (gx_w rfl) rfl (ex_store rfl (F.e rfl) (F.e rfl) hr) ⟨_, H⟩ ?_; clear hr
    refine hzh_do (v := (.pointer (some ⟨b5, 24, none⟩))) (i := 18) F rfl rfl (by kernel_rfl) (fun _ _ _ h => h) ⟨_, H⟩ (fun wz ⟨c9, H⟩ => (ex_faddr rfl (F.e rfl) (fa_27_24 _ _ _))) ?_; clear F A; intro A F
    obtain ⟨W9, hr, hB, hk⟩ := gx_set (P := Tryz.prog) (T := 23) (i := 24) (v := (.slice s.pa p.props.length s.pc)) (c' := (Pk.cells ({ { { (zk p.kind) with clean := p.clean } with keep := p.keep } with props := p.props }) ({ (⟨none, 0, none, 0, none, 0, none, 0⟩ : Sl) with pa := s.pa, pc := s.pc }))) _ (H.b.at_ (j := 0) rfl).1 (gs1_23 _) rfl (by simp [Pk.cells, zeroPk]) rfl
    replace H : Hp _ _ [_, _, _] := Hp.turn [] H hk hB; clear hk hB; refine gxh_st (i := 19) rfl (by kernel_rfl) (gx_w rfl) rfl (ex_store rfl (F.e rfl) (F.e rfl) hr) ⟨_, H⟩ ?_; clear hr
    refine hzh_do (v := (.pointer (some ⟨b5, 7, none⟩))) (i := 20) F rfl rfl (by kernel_rfl) (fun _ _ _ h => h) ⟨_, H⟩ (fun wz ⟨c9, H⟩ => (ex_faddr rfl (F.e rfl) (fa_27_7 _ _ _))) ?_; clear F A; intro A F
    obtain ⟨W9, hr, hB, hk⟩ := gx_set (P := Tryz.prog) (T := 9) (i := 7) (v := (.string p.client)) (c' := (Pk.cells ({ { { { (zk p.kind) with clean := p.clean } with keep := p.keep } with props := p.props } with client := p.client }) ({ (⟨none, 0, none, 0, none, 0, none, 0⟩ : Sl) with pa := s.pa, pc := s.pc }))) _ (H.b.at_ (j := 0) rfl).1 (gs1_9 _) rfl (by simp [Pk.cells, zeroPk]) rfl
    replace H : Hp _ _ [_, _, _] := Hp.turn [] H hk hB; clear hk hB; refine gxh_st (i := 21) rfl (by kernel_rfl) (gx_w rfl) rfl (ex_store rfl (F.e rfl) (F.e rfl) hr) ⟨_, H⟩ ?_; clear hr
    refine hzh_do (v := (.pointer (some ⟨b5, 8, none⟩))) (i := 22) F rfl rfl (by kernel_rfl) (fun _ _ _ h => h) ⟨_, H⟩ (fun wz ⟨c9, H⟩ => (ex_faddr rfl (F.e rfl) (fa_27_8 _ _ _))) ?_; clear F A; intro A F
    obtain ⟨W9, hr, hB, hk⟩ := gx_set (P := Tryz.prog) (T := 4) (i := 8) (v := (.bool p.hasWill)) (c' := (Pk.cells ({ { { { { (zk p.kind) with clean := p.clean } with keep := p.keep } with props := p.props } with client := p.client } with hasWill := p.hasWill }) ({ (⟨none, 0, none, 0, none, 0, none, 0⟩ : Sl) with pa := s.pa, pc := s.pc }))) _ (H.b.at_ (j := 0) rfl).1 (gs1_4 _) rfl (by simp [Pk.cells, zeroPk]) rfl
    replace H : Hp _ _ [_, _, _] := Hp.turn [] H hk hB; clear hk hB; refine gxh_st (i := 23) rfl (by kernel_rfl) (gx_w rfl) rfl (ex_store rfl (F.e rfl) (F.e rfl) hr) ⟨_, H⟩ ?_; clear hr
    refine hzh_do (v := (.pointer (some ⟨b5, 9, none⟩))) (i := 24) F rfl rfl (by kernel_rfl) (fun _ _ _ h => h) ⟨_, H⟩ (fun wz ⟨c9, H⟩ => (ex_faddr rfl (F.e rfl) (fa_27_9 _ _ _))) ?_; clear F A; intro A F
    obtain ⟨W9, hr, hB, hk⟩ := gx_set (P := Tryz.prog) (T := 4) (i := 9) (v := (.bool p.hasUser)) (c' := (Pk.cells ({ { { { { { (zk p.kind) with clean := p.clean } with keep := p.keep } with props := p.props } with client := p.client } with hasWill := p.hasWill } with hasUser := p.hasUser }) ({ (⟨none, 0, none, 0, none, 0, none, 0⟩ : Sl) with pa := s.pa, pc := s.pc }))) _ (H.b.at_ (j := 0) rfl).1 (gs1_4 _) rfl (by simp [Pk.cells, zeroPk]) rfl
    replace H : Hp _ _ [_, _, _] := Hp.turn [] H hk hB; clear hk hB; refine gxh_st (i := 25) rfl (by kernel_rfl) (gx_w rfl) rfl (ex_store rfl (F.e rfl) (F.e rfl) hr) ⟨_, H⟩ ?_; clear hr
    refine hzh_do (v := (.pointer (some ⟨b5, 10, none⟩))) (i := 26) F rfl rfl (by kernel_rfl) (fun _ _ _ h => h) ⟨_, H⟩ (fun wz ⟨c9, H⟩ => (ex_faddr rfl (F.e rfl) (fa_27_10 _ _ _))) ?_; clear F A; intro A F
    obtain ⟨W9, hr, hB, hk⟩ := gx_set (P := Tryz.prog) (T := 4) (i := 10) (v := (.bool p.hasPass)) (c' := (Pk.cells ({ { { { { { { (zk p.kind) with clean := p.clean } with keep := p.keep } with props := p.props } with client := p.client } with hasWill := p.hasWill } with hasUser := p.hasUser } with hasPass := p.hasPass }) ({ (⟨none, 0, none, 0, none, 0, none, 0⟩ : Sl) with pa := s.pa, pc := s.pc }))) _ (H.b.at_ (j := 0) rfl).1 (gs1_4 _) rfl (by simp [Pk.cells, zeroPk]) rfl
    replace H : Hp _ _ [_, _, _] := Hp.turn [] H hk hB; clear hk hB; refine gxh_st (i := 27) rfl (by kernel_rfl) (gx_w rfl) rfl (ex_store rfl (F.e rfl) (F.e rfl) hr) ⟨_, H⟩ ?_; clear hr
    refine wpAnyH_done (by kernel_rfl) ?_ _
    refine hK10 _ _ ?_
    refine wp_seq_k (fun K11 hK11 => ?_)
    refine wp_seq_k (fun K12 hK12 => ?_)
    refine gx_region ?_
    refine hz_fld F rfl rfl (F.e rfl) (fa_27_8 _ _ _) (ag_4 _) (H.c 2 rfl rfl) ?_; clear F A; intro A F
    refine wpList_nil ?_
    refine hK12 _ _ ?_
    refine hz_cond (F.e rfl) (fun hb13 => ?_) (fun hb13 => ?_)
    · skip
      replace F := ((((F.nil.cons (F.g 8 _ rfl)).cons (F.g 3 _ rfl)).cons (F.g 2 _ rfl)).cons (F.g 1 _ rfl))
      refine wp_region_held_drew (S := fun wx => ∃ c9, Hp _ wx [⟨b5, 27, c9⟩, _, _]) (by kernel_rfl) ⟨_, H.drew⟩ (fun H9 => ?_); clear H9; replace H := H.drew
      generalize World.drew _ = W at *
      refine hzh_do (v := (.pointer (some ⟨b2, 11, none⟩))) (i := 0) F rfl rfl (by kernel_rfl) (fun _ _ _ h => h) ⟨_, H⟩ (fun wz ⟨c9, H⟩ => (ex_faddr rfl (F.e rfl) (fa_27_11 _ _ _))) ?_; clear F A; intro A F
      refine hzh_do (v := (.int .u8 ((p.willQoS : Int)))) (i := 1) F rfl rfl (by kernel_rfl) (fun _ _ _ h => h) ⟨_, H⟩ (fun wz ⟨c9, H⟩ => (ex_load rfl (F.e rfl) (gl_one (ag_5 _) (H.c 2 rfl rfl)))) ?_; clear F A; intro A F
      refine hzh_do (v := (.pointer (some ⟨b2, 12, none⟩))) (i := 2) F rfl rfl (by kernel_rfl) (fun _ _ _ h => h) ⟨_, H⟩ (fun wz ⟨c9, H⟩ => (ex_faddr rfl (F.e rfl) (fa_27_12 _ _ _))) ?_; clear F A; intro A F
      refine hzh_do (v := (.bool p.willRetain)) (i := 3) F rfl rfl (by kernel_rfl) (fun _ _ _ h => h) ⟨_, H⟩ (fun wz ⟨c9, H⟩ => (ex_load rfl (F.e rfl) (gl_one (ag_4 _) (H.c 2 rfl rfl)))) ?_; clear F A; intro A F
      refine hzh_do (v := (.pointer (some ⟨b2, 13, none⟩))) (i := 4) F rfl rfl (by kernel_rfl) (fun _ _ _ h => h) ⟨_, H⟩ (fun wz ⟨c9, H⟩ => (ex_faddr rfl (F.e rfl) (fa_27_13 _ _ _))) ?_; clear F A; intro A F
      refine hzh_do (v := (.slice s.wa p.willProps.length s.wc)) (i := 5) F rfl rfl (by kernel_rfl) (fun _ _ _ h => h) ⟨_, H⟩ (fun wz ⟨c9, H⟩ => (ex_load rfl (F.e rfl) (gl_one (ag_23 _) (H.c 2 rfl rfl)))) ?_; clear F A; intro A F
      refine hzh_do (v := (.pointer (some ⟨b2, 14, none⟩))) (i := 6) F rfl rfl (by kernel_rfl) (fun _ _ _ h => h) ⟨_, H⟩ (fun wz ⟨c9, H⟩ => (ex_faddr rfl (F.e rfl) (fa_27_14 _ _ _))) ?_; clear F A; intro A F
      refine hzh_do (v := (.string p.willTopic)) (i := 7) F rfl rfl (by kernel_rfl) (fun _ _ _ h => h) ⟨_, H⟩ (fun wz ⟨c9, H⟩ => (ex_load rfl (F.e rfl) (gl_one (ag_9 _) (H.c 2 rfl rfl)))) ?_; clear F A; intro A F
      refine hzh_do (v := (.pointer (some ⟨b2, 15, none⟩))) (i := 8) F rfl rfl (by kernel_rfl) (fun _ _ _ h => h) ⟨_, H⟩ (fun wz ⟨c9, H⟩ => (ex_faddr rfl (F.e rfl) (fa_27_15 _ _ _))) ?_; clear F A; intro A F
      refine hzh_do (v := (.string p.willLoad)) (i := 9) F rfl rfl (by kernel_rfl) (fun _ _ _ h => h) ⟨_, H⟩ (fun wz ⟨c9, H⟩ => (ex_load rfl (F.e rfl) (gl_one (ag_9 _) (H.c 2 rfl rfl)))) ?_; clear F A; intro A F
      refine hzh_do (v := (.pointer (some ⟨b5, 11, none⟩))) (i := 10) F rfl rfl (by kernel_rfl) (fun _ _ _ h => h) ⟨_, H⟩ (fun wz ⟨c9, H⟩ => (ex_faddr rfl (F.e rfl) (fa_27_11 _ _ _))) ?_; clear F A; intro A F
      obtain ⟨W9, hr, hB, hk⟩ := gx_set (P := Tryz.prog) (T := 5) (i := 11) (v := (.int .u8 ((p.willQoS : Int)))) (c' := (Pk.cells ({ { { { { { { { (zk p.kind) with clean := p.clean } with keep := p.keep } with props := p.props } with client := p.client } with hasWill := p.hasWill } with hasUser := p.hasUser } with hasPass := p.hasPass } with willQoS := p.willQoS }) ({ (⟨none, 0, none, 0, none, 0, none, 0⟩ : Sl) with pa := s.pa, pc := s.pc }))) _ (H.b.at_ (j := 0) rfl).1 (gs1_5 _) rfl (by simp [Pk.cells, zeroPk]) rfl
      replace H : Hp _ _ [_, _, _] := Hp.turn [] H hk hB; clear hk hB; refine gxh_st (i := 11) rfl (by kernel_rfl) (gx_w rfl) rfl (ex_store rfl (F.e rfl) (F.e rfl) hr) ⟨_, H⟩ ?_; clear hr
      refine hzh_do (v := (.pointer (some ⟨b5, 12, none⟩))) (i := 12) F rfl rfl (by kernel_rfl) (fun _ _ _ h => h) ⟨_, H⟩ (fun wz ⟨c9, H⟩ => (ex_faddr rfl (F.e rfl) (fa_27_12 _ _ _))) ?_; clear F A; intro A F
      obtain ⟨W9, hr, hB, hk⟩ := gx_set (P := Tryz.prog) (T := 4) (i := 12) (v := (.bool p.willRetain)) (c' := (Pk.cells ({ { { { { { { { { (zk p.kind) with clean := p.clean } with keep := p.keep } with props := p.props } with client := p.client } with hasWill := p.hasWill } with hasUser := p.hasUser } with hasPass := p.hasPass } with willQoS := p.willQoS } with willRetain := p.willRetain }) ({ (⟨none, 0, none, 0, none, 0, none, 0⟩ : Sl) with pa := s.pa, pc := s.pc }))) _ (H.b.at_ (j := 0) rfl).1 (gs1_4 _) rfl (by simp [Pk.cells, zeroPk]) rfl
      replace H : Hp _ _ [_, _, _] := Hp.turn [] H hk hB; clear hk hB; refine gxh_st (i := 13) rfl (by kernel_rfl) (gx_w rfl) rfl (ex_store rfl (F.e rfl) (F.e rfl) hr) ⟨_, H⟩ ?_; clear hr
      refine hzh_do (v := (.pointer (some ⟨b5, 13, none⟩))) (i := 14) F rfl rfl (by kernel_rfl) (fun _ _ _ h => h) ⟨_, H⟩ (fun wz ⟨c9, H⟩ => (ex_faddr rfl (F.e rfl) (fa_27_13 _ _ _))) ?_; clear F A; intro A F
      obtain ⟨W9, hr, hB, hk⟩ := gx_set (P := Tryz.prog) (T := 23) (i := 13) (v := (.slice s.wa p.willProps.length s.wc)) (c' := (Pk.cells ({ { { { { { { { { { (zk p.kind) with clean := p.clean } with keep := p.keep } with props := p.props } with client := p.client } with hasWill := p.hasWill } with hasUser := p.hasUser } with hasPass := p.hasPass } with willQoS := p.willQoS } with willRetain := p.willRetain } with willProps := p.willProps }) ({ { (⟨none, 0, none, 0, none, 0, none, 0⟩ : Sl) with pa := s.pa, pc := s.pc } with wa := s.wa, wc := s.wc }))) _ (H.b.at_ (j := 0) rfl).1 (gs1_23 _) rfl (by simp [Pk.cells, zeroPk]) rfl
      replace H : Hp _ _ [_, _, _] := Hp.turn [] H hk hB; clear hk hB; refine gxh_st (i := 15) rfl (by kernel_rfl) (gx_w rfl) rfl (ex_store rfl (F.e rfl) (F.e rfl) hr) ⟨_, H⟩ ?_; clear hr
      refine hzh_do (v := (.pointer (some ⟨b5, 14, none⟩))) (i := 16) F rfl rfl (by kernel_rfl) (fun _ _ _ h => h) ⟨_, H⟩ (fun wz ⟨c9, H⟩ => (ex_faddr rfl (F.e rfl) (fa_27_14 _ _ _))) ?_; clear F A; intro A F
      obtain ⟨W9, hr, hB, hk⟩ := gx_set (P := Tryz.prog) (T := 9) (i := 14) (v := (.string p.willTopic)) (c' := (Pk.cells ({ { { { { { { { { { { (zk p.kind) with clean := p.clean } with keep := p.keep } with props := p.props } with client := p.client } with hasWill := p.hasWill } with hasUser := p.hasUser } with hasPass := p.hasPass } with willQoS := p.willQoS } with willRetain := p.willRetain } with willProps := p.willProps } with willTopic := p.willTopic }) ({ { (⟨none, 0, none, 0, none, 0, none, 0⟩ : Sl) with pa := s.pa, pc := s.pc } with wa := s.wa, wc := s.wc }))) _ (H.b.at_ (j := 0) rfl).1 (gs1_9 _) rfl (by simp [Pk.cells, zeroPk]) rfl
      replace H : Hp _ _ [_, _, _] := Hp.turn [] H hk hB; clear hk hB; refine gxh_st (i := 17) rfl (by kernel_rfl) (gx_w rfl) rfl (ex_store rfl (F.e rfl) (F.e rfl) hr) ⟨_, H⟩ ?_; clear hr
      refine hzh_do (v := (.pointer (some ⟨b5, 15, none⟩))) (i := 18) F rfl rfl (by kernel_rfl) (fun _ _ _ h => h) ⟨_, H⟩ (fun wz ⟨c9, H⟩ => (ex_faddr rfl (F.e rfl) (fa_27_15 _ _ _))) ?_; clear F A; intro A F
      obtain ⟨W9, hr, hB, hk⟩ := gx_set (P := Tryz.prog) (T := 9) (i := 15) (v := (.string p.willLoad)) (c' := (Pk.cells ({ { { { { { { { { { { { (zk p.kind) with clean := p.clean } with keep := p.keep } with props := p.props } with client := p.client } with hasWill := p.hasWill } with hasUser := p.hasUser } with hasPass := p.hasPass } with willQoS := p.willQoS } with willRetain := p.willRetain } with willProps := p.willProps } with willTopic := p.willTopic } with willLoad := p.willLoad }) ({ { (⟨none, 0, none, 0, none, 0, none, 0⟩ : Sl) with pa := s.pa, pc := s.pc } with wa := s.wa, wc := s.wc }))) _ (H.b.at_ (j := 0) rfl).1 (gs1_9 _) rfl (by simp [Pk.cells, zeroPk]) rfl
      replace H : Hp _ _ [_, _, _] := Hp.turn [] H hk hB; clear hk hB; refine gxh_st (i := 19) rfl (by kernel_rfl) (gx_w rfl) rfl (ex_store rfl (F.e rfl) (F.e rfl) hr) ⟨_, H⟩ ?_; clear hr
      refine wpAnyH_done (by kernel_rfl) ?_ _
      refine hK11 _ _ ?_
      refine wp_seq_k (fun K14 hK14 => ?_)
      refine wp_seq_k (fun K15 hK15 => ?_)
      refine gx_region ?_
      refine hz_fld F rfl rfl (F.e rfl) (fa_27_9 _ _ _) (ag_4 _) (H.c 2 rfl rfl) ?_; clear F A; intro A F
      refine wpList_nil ?_
      refine hK15 _ _ ?_
      refine hz_cond (F.e rfl) (fun hb16 => ?_) (fun hb16 => ?_)
      · skip
        replace F := ((((F.nil.cons (F.g 8 _ rfl)).cons (F.g 3 _ rfl)).cons (F.g 2 _ rfl)).cons (F.g 1 _ rfl))
        refine gx_region ?_
        refine hz_fld F rfl rfl (F.e rfl) (fa_27_16 _ _ _) (ag_9 _) (H.c 2 rfl rfl) ?_; clear F A; intro A F
        refine hz_do F rfl (ex_faddr rfl (F.e rfl) (fa_27_16 _ _ _)) ?_; clear F A; intro A F
        obtain ⟨W9, hr, hB, hk⟩ := gx_set (P := Tryz.prog) (T := 9) (i := 16) (v := (.string p.user)) (c' := (Pk.cells ({ { { { { { { { { { { { { (zk p.kind) with clean := p.clean } with keep := p.keep } with props := p.props } with client := p.client } with hasWill := p.hasWill } with hasUser := p.hasUser } with hasPass := p.hasPass } with willQoS := p.willQoS } with willRetain := p.willRetain } with willProps := p.willProps } with willTopic := p.willTopic } with willLoad := p.willLoad } with user := p.user }) ({ { (⟨none, 0, none, 0, none, 0, none, 0⟩ : Sl) with pa := s.pa, pc := s.pc } with wa := s.wa, wc := s.wc }))) _ (H.b.at_ (j := 0) rfl).1 (gs1_9 _) rfl (by simp [Pk.cells, zeroPk]) rfl
        refine hz_st (ex_store rfl (F.e rfl) (F.e rfl) hr) ?_; clear hr; replace H : Hp _ _ [_, _, _] := Hp.turn [] H hk hB; clear hk hB
        refine wpList_nil ?_
        refine hK14 _ _ ?_
        refine wp_seq_k (fun K17 hK17 => ?_)
        refine gx_region ?_
        refine hz_fld F rfl rfl (F.e rfl) (fa_27_10 _ _ _) (ag_4 _) (H.c 2 rfl rfl) ?_; clear F A; intro A F
        refine wpList_nil ?_
        refine hK17 _ _ ?_
        refine hz_cond (F.e rfl) (fun hb18 => ?_) (fun hb18 => ?_)
        · skip
          refine gx_region ?_
          refine hz_fld F rfl rfl (F.e rfl) (fa_27_17 _ _ _) (ag_9 _) (H.c 2 rfl rfl) ?_; clear F A; intro A F
          refine hz_do F rfl (ex_faddr rfl (F.e rfl) (fa_27_17 _ _ _)) ?_; clear F A; intro A F
          obtain ⟨W9, hr, hB, hk⟩ := gx_set (P := Tryz.prog) (T := 9) (i := 17) (v := (.string p.pass)) (c' := (Pk.cells ({ { { { { { { { { { { { { { (zk p.kind) with clean := p.clean } with keep := p.keep } with props := p.props } with client := p.client } with hasWill := p.hasWill } with hasUser := p.hasUser } with hasPass := p.hasPass } with willQoS := p.willQoS } with willRetain := p.willRetain } with willProps := p.willProps } with willTopic := p.willTopic } with willLoad := p.willLoad } with user := p.user } with pass := p.pass }) ({ { (⟨none, 0, none, 0, none, 0, none, 0⟩ : Sl) with pa := s.pa, pc := s.pc } with wa := s.wa, wc := s.wc }))) _ (H.b.at_ (j := 0) rfl).1 (gs1_9 _) rfl (by simp [Pk.cells, zeroPk]) rfl
          refine hz_st (ex_store rfl (F.e rfl) (F.e rfl) hr) ?_; clear hr; replace H : Hp _ _ [_, _, _] := Hp.turn [] H hk hB; clear hk hB
          refine wpList_nil ?_
          refine hK6 _ _ ?_
          refine wp_seq_k (fun K19 hK19 => ?_)
          refine gx_region ?_
          refine hz_do F rfl (ex_load rfl (F.e rfl) (gl_agg ((Pk.cells ({ { { { { { { { { { { { { { (zk p.kind) with clean := p.clean } with keep := p.keep } with props := p.props } with client := p.client } with hasWill := p.hasWill } with hasUser := p.hasUser } with hasPass := p.hasPass } with willQoS := p.willQoS } with willRetain := p.willRetain } with willProps := p.willProps } with willTopic := p.willTopic } with willLoad := p.willLoad } with user := p.user } with pass := p.pass }) ({ { (⟨none, 0, none, 0, none, 0, none, 0⟩ : Sl) with pa := s.pa, pc := s.pc } with wa := s.wa, wc := s.wc }))) rfl (ga_27 _) (gs_27 _) (fun i => H.cs 0 rfl i))) ?_; clear F A; intro A F
          obtain ⟨W9, hr, hB, hk⟩ := gx_storeAgg (P := Tryz.prog) (S := 27) (c := (Pk.cells ({ { { { { { { { { { { { { { (zk p.kind) with clean := p.clean } with keep := p.keep } with props := p.props } with client := p.client } with hasWill := p.hasWill } with hasUser := p.hasUser } with hasPass := p.hasPass } with willQoS := p.willQoS } with willRetain := p.willRetain } with willProps := p.willProps } with willTopic := p.willTopic } with willLoad := p.willLoad } with user := p.user } with pass := p.pass }) ({ { (⟨none, 0, none, 0, none, 0, none, 0⟩ : Sl) with pa := s.pa, pc := s.pc } with wa := s.wa, wc := s.wc }))) _ (H.b.at_ (j := 1) rfl).1 (gs_27 _) rfl (pk_one _ _)
          refine hz_st (ex_store rfl (F.e rfl) (F.e rfl) hr) ?_; clear hr; replace H : Hp _ _ [_, _, _] := Hp.turn [_] H hk hB; clear hk hB
          refine wpList_nil ?_
          refine hK19 _ _ ?_
          refine gx_ret ?_
          refine (show bodyPost Tryz.prog Tryz.f15 (fun e w' => e = .returned (Pk.val (bareP p) (ownSl p s)) ∧ Kept No w w') Exit.ret _ _ from ?_)
          exact bodyPost_ret (fn := Tryz.f15) (gx_resc rfl (F.g 2 _ rfl) (gl_agg ((Pk.cells ({ { { { { { { { { { { { { { (zk p.kind) with clean := p.clean } with keep := p.keep } with props := p.props } with client := p.client } with hasWill := p.hasWill } with hasUser := p.hasUser } with hasPass := p.hasPass } with willQoS := p.willQoS } with willRetain := p.willRetain } with willProps := p.willProps } with willTopic := p.willTopic } with willLoad := p.willLoad } with user := p.user } with pass := p.pass }) ({ { (⟨none, 0, none, 0, none, 0, none, 0⟩ : Sl) with pa := s.pa, pc := s.pc } with wa := s.wa, wc := s.wc }))) rfl (ga_27 _) (gs_27 _) (fun i => H.cs 1 rfl i))) F.d (⟨by unfold Pk.val; exact congrArg (fun x => Ending.returned (.agg x)) (congr (congrArg Pk.cells (by (try simp only [← Bool.not_eq_true, Bool.or_eq_true, Bool.and_eq_true, decide_eq_true_eq] at hb9 hb13 hb16 hb18); unfold bareP; simp only [hb9, hb13, hb16, hb18, ↓reduceIte, or_true, true_or, or_self, Int.reduceEq, or_false, false_or] <;> (first | done | rfl))) (by (try simp only [← Bool.not_eq_true, Bool.or_eq_true, Bool.and_eq_true, decide_eq_true_eq] at hb9 hb13 hb16 hb18); unfold ownSl; simp only [hb9, hb13, hb16, hb18, ↓reduceIte, or_true, true_or, or_self, Int.reduceEq, or_false, false_or] <;> (first | done | rfl))), H.k⟩)
        refine wp_skip ?_
        refine hK6 _ _ ?_
        refine wp_seq_k (fun K20 hK20 => ?_)
        refine gx_region ?_
        refine hz_do F rfl (ex_load rfl (F.e rfl) (gl_agg ((Pk.cells ({ { { { { { { { { { { { { (zk p.kind) with clean := p.clean } with keep := p.keep } with props := p.props } with client := p.client } with hasWill := p.hasWill } with hasUser := p.hasUser } with hasPass := p.hasPass } with willQoS := p.willQoS } with willRetain := p.willRetain } with willProps := p.willProps } with willTopic := p.willTopic } with willLoad := p.willLoad } with user := p.user }) ({ { (⟨none, 0, none, 0, none, 0, none, 0⟩ : Sl) with pa := s.pa, pc := s.pc } with wa := s.wa, wc := s.wc }))) rfl (ga_27 _) (gs_27 _) (fun i => H.cs 0 rfl i))) ?_; clear F A; intro A F
        obtain ⟨W9, hr, hB, hk⟩ := gx_storeAgg (P := Tryz.prog) (S := 27) (c := (Pk.cells ({ { { { { { { { { { { { { (zk p.kind) with clean := p.clean } with keep := p.keep } with props := p.props } with client := p.client } with hasWill := p.hasWill } with hasUser := p.hasUser } with hasPass := p.hasPass } with willQoS := p.willQoS } with willRetain := p.willRetain } with willProps := p.willProps } with willTopic := p.willTopic } with willLoad := p.willLoad } with user := p.user }) ({ { (⟨none, 0, none, 0, none, 0, none, 0⟩ : Sl) with pa := s.pa, pc := s.pc } with wa := s.wa, wc := s.wc }))) _ (H.b.at_ (j := 1) rfl).1 (gs_27 _) rfl (pk_one _ _)
        refine hz_st (ex_store rfl (F.e rfl) (F.e rfl) hr) ?_; clear hr; replace H : Hp _ _ [_, _, _] := Hp.turn [_] H hk hB; clear hk hB
        refine wpList_nil ?_
        refine hK20 _ _ ?_
        refine gx_ret ?_
        refine (show bodyPost Tryz.prog Tryz.f15 (fun e w' => e = .returned (Pk.val (bareP p) (ownSl p s)) ∧ Kept No w w') Exit.ret _ _ from ?_)
        exact bodyPost_ret (fn := Tryz.f15) (gx_resc rfl (F.g 2 _ rfl) (gl_agg ((Pk.cells ({ { { { { { { { { { { { { (zk p.kind) with clean := p.clean } with keep := p.keep } with props := p.props } with client := p.client } with hasWill := p.hasWill } with hasUser := p.hasUser } with hasPass := p.hasPass } with willQoS := p.willQoS } with willRetain := p.willRetain } with willProps := p.willProps } with willTopic := p.willTopic } with willLoad := p.willLoad } with user := p.user }) ({ { (⟨none, 0, none, 0, none, 0, none, 0⟩ : Sl) with pa := s.pa, pc := s.pc } with wa := s.wa, wc := s.wc }))) rfl (ga_27 _) (gs_27 _) (fun i => H.cs 1 rfl i))) F.d (⟨by unfold Pk.val; exact congrArg (fun x => Ending.returned (.agg x)) (congr (congrArg Pk.cells (by (try simp only [← Bool.not_eq_true, Bool.or_eq_true, Bool.and_eq_true, decide_eq_true_eq] at hb9 hb13 hb16 hb18); unfold bareP; simp only [hb9, hb13, hb16, hb18, ↓reduceIte, or_true, true_or, or_self, Int.reduceEq, or_false, false_or] <;> (first | done | rfl))) (by (try simp only [← Bool.not_eq_true, Bool.or_eq_true, Bool.and_eq_true, decide_eq_true_eq] at hb9 hb13 hb16 hb18); unfold ownSl; simp only [hb9, hb13, hb16, hb18, ↓reduceIte, or_true, true_or, or_self, Int.reduceEq, or_false, false_or] <;> (first | done | rfl))), H.k⟩)
      replace F := ((((F.nil.cons (F.g 8 _ rfl)).cons (F.g 3 _ rfl)).cons (F.g 2 _ rfl)).cons (F.g 1 _ rfl))
      refine wp_skip ?_
      refine hK14 _ _ ?_
      refine wp_seq_k (fun K21 hK21 => ?_)
      refine gx_region ?_
      refine hz_fld F rfl rfl (F.e rfl) (fa_27_10 _ _ _) (ag_4 _) (H.c 2 rfl rfl) ?_; clear F A; intro A F
      refine wpList_nil ?_
      refine hK21 _ _ ?_
      refine hz_cond (F.e rfl) (fun hb22 => ?_) (fun hb22 => ?_)
      · skip
        refine gx_region ?_
        refine hz_fld F rfl rfl (F.e rfl) (fa_27_17 _ _ _) (ag_9 _) (H.c 2 rfl rfl) ?_; clear F A; intro A F
        refine hz_do F rfl (ex_faddr rfl (F.e rfl) (fa_27_17 _ _ _)) ?_; clear F A; intro A F
        obtain ⟨W9, hr, hB, hk⟩ := gx_set (P := Tryz.prog) (T := 9) (i := 17) (v := (.string p.pass)) (c' := (Pk.cells ({ { { { { { { { { { { { { (zk p.kind) with clean := p.clean } with keep := p.keep } with props := p.props } with client := p.client } with hasWill := p.hasWill } with hasUser := p.hasUser } with hasPass := p.hasPass } with willQoS := p.willQoS } with willRetain := p.willRetain } with willProps := p.willProps } with willTopic := p.willTopic } with willLoad := p.willLoad } with pass := p.pass }) ({ { (⟨none, 0, none, 0, none, 0, none, 0⟩ : Sl) with pa := s.pa, pc := s.pc } with wa := s.wa, wc := s.wc }))) _ (H.b.at_ (j := 0) rfl).1 (gs1_9 _) rfl (by simp [Pk.cells, zeroPk]) rfl
        refine hz_st (ex_store rfl (F.e rfl) (F.e rfl) hr) ?_; clear hr; replace H : Hp _ _ [_, _, _] := Hp.turn [] H hk hB; clear hk hB
        refine wpList_nil ?_
        refine hK6 _ _ ?_
        refine wp_seq_k (fun K23 hK23 => ?_)
        refine gx_region ?_
        refine hz_do F rfl (ex_load rfl (F.e rfl) (gl_agg ((Pk.cells ({ { { { { { { { { { { { { (zk p.kind) with clean := p.clean } with keep := p.keep } with props := p.props } with client := p.client } with hasWill := p.hasWill } with hasUser := p.hasUser } with hasPass := p.hasPass } with willQoS := p.willQoS } with willRetain := p.willRetain } with willProps := p.willProps } with willTopic := p.willTopic } with willLoad := p.willLoad } with pass := p.pass }) ({ { (⟨none, 0, none, 0, none, 0, none, 0⟩ : Sl) with pa := s.pa, pc := s.pc } with wa := s.wa, wc := s.wc }))) rfl (ga_27 _) (gs_27 _) (fun i => H.cs 0 rfl i))) ?_; clear F A; intro A F
        obtain ⟨W9, hr, hB, hk⟩ := gx_storeAgg (P := Tryz.prog) (S := 27) (c := (Pk.cells ({ { { { { { { { { { { { { (zk p.kind) with clean := p.clean } with keep := p.keep } with props := p.props } with client := p.client } with hasWill := p.hasWill } with hasUser := p.hasUser } with hasPass := p.hasPass } with willQoS := p.willQoS } with willRetain := p.willRetain } with willProps := p.willProps } with willTopic := p.willTopic } with willLoad := p.willLoad } with pass := p.pass }) ({ { (⟨none, 0, none, 0, none, 0, none, 0⟩ : Sl) with pa := s.pa, pc := s.pc } with wa := s.wa, wc := s.wc }))) _ (H.b.at_ (j := 1) rfl).1 (gs_27 _) rfl (pk_one _ _)
        refine hz_st (ex_store rfl (F.e rfl) (F.e rfl) hr) ?_; clear hr; replace H : Hp _ _ [_, _, _] := Hp.turn [_] H hk hB; clear hk hB
        refine wpList_nil ?_
        refine hK23 _ _ ?_
        refine gx_ret ?_
        refine (show bodyPost Tryz.prog Tryz.f15 (fun e w' => e = .returned (Pk.val (bareP p) (ownSl p s)) ∧ Kept No w w') Exit.ret _ _ from ?_)
        exact bodyPost_ret (fn := Tryz.f15) (gx_resc rfl (F.g 2 _ rfl) (gl_agg ((Pk.cells ({ { { { { { { { { { { { { (zk p.kind) with clean := p.clean } with keep := p.keep } with props := p.props } with client := p.client } with hasWill := p.hasWill } with hasUser := p.hasUser } with hasPass := p.hasPass } with willQoS := p.willQoS } with willRetain := p.willRetain } with willProps := p.willProps } with willTopic := p.willTopic } with willLoad := p.willLoad } with pass := p.pass }) ({ { (⟨none, 0, none, 0, none, 0, none, 0⟩ : Sl) with pa := s.pa, pc := s.pc } with wa := s.wa, wc := s.wc }))) rfl (ga_27 _) (gs_27 _) (fun i => H.cs 1 rfl i))) F.d (⟨by unfold Pk.val; exact congrArg (fun x => Ending.returned (.agg x)) (congr (congrArg Pk.cells (by (try simp only [← Bool.not_eq_true, Bool.or_eq_true, Bool.and_eq_true, decide_eq_true_eq] at hb9 hb13 hb16 hb22); unfold bareP; simp only [hb9, hb13, hb16, hb22, ↓reduceIte, or_true, true_or, or_self, Int.reduceEq, or_false, false_or] <;> (first | done | rfl))) (by (try simp only [← Bool.not_eq_true, Bool.or_eq_true, Bool.and_eq_true, decide_eq_true_eq] at hb9 hb13 hb16 hb22); unfold ownSl; simp only [hb9, hb13, hb16, hb22, ↓reduceIte, or_true, true_or, or_self, Int.reduceEq, or_false, false_or] <;> (first | done | rfl))), H.k⟩)
      refine wp_skip ?_
      refine hK6 _ _ ?_
      refine wp_seq_k (fun K24 hK24 => ?_)
      refine gx_region ?_
      refine hz_do F rfl (ex_load rfl (F.e rfl) (gl_agg ((Pk.cells ({ { { { { { { { { { { { (zk p.kind) with clean := p.clean } with keep := p.keep } with props := p.props } with client := p.client } with hasWill := p.hasWill } with hasUser := p.hasUser } with hasPass := p.hasPass } with willQoS := p.willQoS } with willRetain := p.willRetain } with willProps := p.willProps } with willTopic := p.willTopic } with willLoad := p.willLoad }) ({ { (⟨none, 0, none, 0, none, 0, none, 0⟩ : Sl) with pa := s.pa, pc := s.pc } with wa := s.wa, wc := s.wc }))) rfl (ga_27 _) (gs_27 _) (fun i => H.cs 0 rfl i))) ?_; clear F A; intro A F
      obtain ⟨W9, hr, hB, hk⟩ := gx_storeAgg (P := Tryz.prog) (S := 27) (c := (Pk.cells ({ { { { { { { { { { { { (zk p.kind) with clean := p.clean } with keep := p.keep } with props := p.props } with client := p.client } with hasWill := p.hasWill } with hasUser := p.hasUser } with hasPass := p.hasPass } with willQoS := p.willQoS } with willRetain := p.willRetain } with willProps := p.willProps } with willTopic := p.willTopic } with willLoad := p.willLoad }) ({ { (⟨none, 0, none, 0, none, 0, none, 0⟩ : Sl) with pa := s.pa, pc := s.pc } with wa := s.wa, wc := s.wc }))) _ (H.b.at_ (j := 1) rfl).1 (gs_27 _) rfl (pk_one _ _)
      refine hz_st (ex_store rfl (F.e rfl) (F.e rfl) hr) ?_; clear hr; replace H : Hp _ _ [_, _, _] := Hp.turn [_] H hk hB; clear hk hB
      refine wpList_nil ?_
      refine hK24 _ _ ?_
      refine gx_ret ?_
      refine (show bodyPost Tryz.prog Tryz.f15 (fun e w' => e = .returned (Pk.val (bareP p) (ownSl p s)) ∧ Kept No w w') Exit.ret _ _ from ?_)
      exact bodyPost_ret (fn := Tryz.f15) (gx_resc rfl (F.g 2 _ rfl) (gl_agg ((Pk.cells ({ { { { { { { { { { { { (zk p.kind) with clean := p.clean } with keep := p.keep } with props := p.props } with client := p.client } with hasWill := p.hasWill } with hasUser := p.hasUser } with hasPass := p.hasPass } with willQoS := p.willQoS } with willRetain := p.willRetain } with willProps := p.willProps } with willTopic := p.willTopic } with willLoad := p.willLoad }) ({ { (⟨none, 0, none, 0, none, 0, none, 0⟩ : Sl) with pa := s.pa, pc := s.pc } with wa := s.wa, wc := s.wc }))) rfl (ga_27 _) (gs_27 _) (fun i => H.cs 1 rfl i))) F.d (⟨by unfold Pk.val; exact congrArg (fun x => Ending.returned (.agg x)) (congr (congrArg Pk.cells (by (try simp only [← Bool.not_eq_true, Bool.or_eq_true, Bool.and_eq_true, decide_eq_true_eq] at hb9 hb13 hb16 hb22); unfold bareP; simp only [hb9, hb13, hb16, hb22, ↓reduceIte, or_true, true_or, or_self, Int.reduceEq, or_false, false_or] <;> (first | done | rfl))) (by (try simp only [← Bool.not_eq_true, Bool.or_eq_true, Bool.and_eq_true, decide_eq_true_eq] at hb9 hb13 hb16 hb22); unfold ownSl; simp only [hb9, hb13, hb16, hb22, ↓reduceIte, or_true, true_or, or_self, Int.reduceEq, or_false, false_or] <;> (first | done | rfl))), H.k⟩)
    replace F := ((((F.nil.cons (F.g 8 _ rfl)).cons (F.g 3 _ rfl)).cons (F.g 2 _ rfl)).cons (F.g 1 _ rfl))
    refine wp_skip ?_
    refine hK11 _ _ ?_
    refine wp_seq_k (fun K25 hK25 => ?_)
    refine wp_seq_k (fun K26 hK26 => ?_)
    refine gx_region ?_
    refine hz_fld F rfl rfl (F.e rfl) (fa_27_9 _ _ _) (ag_4 _) (H.c 2 rfl rfl) ?_; clear F A; intro A F
    refine wpList_nil ?_
    refine hK26 _ _ ?_
    refine hz_cond (F.e rfl) (fun hb27 => ?_) (fun hb27 => ?_)
    · skip
      refine gx_region ?_
      refine hz_fld F rfl rfl (F.e rfl) (fa_27_16 _ _ _) (ag_9 _) (H.c 2 rfl rfl) ?_; clear F A; intro A F
      refine hz_do F rfl (ex_faddr rfl (F.e rfl) (fa_27_16 _ _ _)) ?_; clear F A; intro A F
      obtain ⟨W9, hr, hB, hk⟩ := gx_set (P := Tryz.prog) (T := 9) (i := 16) (v := (.string p.user)) (c' := (Pk.cells ({ { { { { { { { (zk p.kind) with clean := p.clean } with keep := p.keep } with props := p.props } with client := p.client } with hasWill := p.hasWill } with hasUser := p.hasUser } with hasPass := p.hasPass } with user := p.user }) ({ (⟨none, 0, none, 0, none, 0, none, 0⟩ : Sl) with pa := s.pa, pc := s.pc }))) _ (H.b.at_ (j := 0) rfl).1 (gs1_9 _) rfl (by simp [Pk.cells, zeroPk]) rfl
      refine hz_st (ex_store rfl (F.e rfl) (F.e rfl) hr) ?_; clear hr; replace H : Hp _ _ [_, _, _] := Hp.turn [] H hk hB; clear hk hB
      refine wpList_nil ?_
      refine hK25 _ _ ?_
      refine wp_seq_k (fun K28 hK28 => ?_)
      refine gx_region ?_
      refine hz_fld F rfl rfl (F.e rfl) (fa_27_10 _ _ _) (ag_4 _) (H.c 2 rfl rfl) ?_; clear F A; intro A F
      refine wpList_nil ?_
      refine hK28 _ _ ?_
      refine hz_cond (F.e rfl) (fun hb29 => ?_) (fun hb29 => ?_)
      · skip
        refine gx_region ?_
        refine hz_fld F rfl rfl (F.e rfl) (fa_27_17 _ _ _) (ag_9 _) (H.c 2 rfl rfl) ?_; clear F A; intro A F
        refine hz_do F rfl (ex_faddr rfl (F.e rfl) (fa_27_17 _ _ _)) ?_; clear F A; intro A F
        obtain ⟨W9, hr, hB, hk⟩ := gx_set (P := Tryz.prog) (T := 9) (i := 17) (v := (.string p.pass)) (c' := (Pk.cells ({ { { { { { { { { (zk p.kind) with clean := p.clean } with keep := p.keep } with props := p.props } with client := p.client } with hasWill := p.hasWill } with hasUser := p.hasUser } with hasPass := p.hasPass } with user := p.user } with pass := p.pass }) ({ (⟨none, 0, none, 0, none, 0, none, 0⟩ : Sl) with pa := s.pa, pc := s.pc }))) _ (H.b.at_ (j := 0) rfl).1 (gs1_9 _) rfl (by simp [Pk.cells, zeroPk]) rfl
        refine hz_st (ex_store rfl (F.e rfl) (F.e rfl) hr) ?_; clear hr; replace H : Hp _ _ [_, _, _] := Hp.turn [] H hk hB; clear hk hB
        refine wpList_nil ?_
        refine hK6 _ _ ?_
        refine wp_seq_k (fun K30 hK30 => ?_)
        refine gx_region ?_
        refine hz_do F rfl (ex_load rfl (F.e rfl) (gl_agg ((Pk.cells ({ { { { { { { { { (zk p.kind) with clean := p.clean } with keep := p.keep } with props := p.props } with client := p.client } with hasWill := p.hasWill } with hasUser := p.hasUser } with hasPass := p.hasPass } with user := p.user } with pass := p.pass }) ({ (⟨none, 0, none, 0, none, 0, none, 0⟩ : Sl) with pa := s.pa, pc := s.pc }))) rfl (ga_27 _) (gs_27 _) (fun i => H.cs 0 rfl i))) ?_; clear F A; intro A F
        obtain ⟨W9, hr, hB, hk⟩ := gx_storeAgg (P := Tryz.prog) (S := 27) (c := (Pk.cells ({ { { { { { { { { (zk p.kind) with clean := p.clean } with keep := p.keep } with props := p.props } with client := p.client } with hasWill := p.hasWill } with hasUser := p.hasUser } with hasPass := p.hasPass } with user := p.user } with pass := p.pass }) ({ (⟨none, 0, none, 0, none, 0, none, 0⟩ : Sl) with pa := s.pa, pc := s.pc }))) _ (H.b.at_ (j := 1) rfl).1 (gs_27 _) rfl (pk_one _ _)
        refine hz_st (ex_store rfl (F.e rfl) (F.e rfl) hr) ?_; clear hr; replace H : Hp _ _ [_, _, _] := Hp.turn [_] H hk hB; clear hk hB
        refine wpList_nil ?_
        refine hK30 _ _ ?_
        refine gx_ret ?_
        refine (show bodyPost Tryz.prog Tryz.f15 (fun e w' => e = .returned (Pk.val (bareP p) (ownSl p s)) ∧ Kept No w w') Exit.ret _ _ from ?_)
        exact bodyPost_ret (fn := Tryz.f15) (gx_resc rfl (F.g 2 _ rfl) (gl_agg ((Pk.cells ({ { { { { { { { { (zk p.kind) with clean := p.clean } with keep := p.keep } with props := p.props } with client := p.client } with hasWill := p.hasWill } with hasUser := p.hasUser } with hasPass := p.hasPass } with user := p.user } with pass := p.pass }) ({ (⟨none, 0, none, 0, none, 0, none, 0⟩ : Sl) with pa := s.pa, pc := s.pc }))) rfl (ga_27 _) (gs_27 _) (fun i => H.cs 1 rfl i))) F.d (⟨by unfold Pk.val; exact congrArg (fun x => Ending.returned (.agg x)) (congr (congrArg Pk.cells (by (try simp only [← Bool.not_eq_true, Bool.or_eq_true, Bool.and_eq_true, decide_eq_true_eq] at hb9 hb13 hb27 hb29); unfold bareP; simp only [hb9, hb13, hb27, hb29, ↓reduceIte, or_true, true_or, or_self, Int.reduceEq, or_false, false_or] <;> (first | done | rfl))) (by (try simp only [← Bool.not_eq_true, Bool.or_eq_true, Bool.and_eq_true, decide_eq_true_eq] at hb9 hb13 hb27 hb29); unfold ownSl; simp only [hb9, hb13, hb27, hb29, ↓reduceIte, or_true, true_or, or_self, Int.reduceEq, or_false, false_or] <;> (first | done | rfl))), H.k⟩)
      refine wp_skip ?_
      refine hK6 _ _ ?_
      refine wp_seq_k (fun K31 hK31 => ?_)
      refine gx_region ?_
      refine hz_do F rfl (ex_load rfl (F.e rfl) (gl_agg ((Pk.cells ({ { { { { { { { (zk p.kind) with clean := p.clean } with keep := p.keep } with props := p.props } with client := p.client } with hasWill := p.hasWill } with hasUser := p.hasUser } with hasPass := p.hasPass } with user := p.user }) ({ (⟨none, 0, none, 0, none, 0, none, 0⟩ : Sl) with pa := s.pa, pc := s.pc }))) rfl (ga_27 _) (gs_27 _) (fun i => H.cs 0 rfl i))) ?_; clear F A; intro A F
      obtain ⟨W9, hr, hB, hk⟩ := gx_storeAgg (P := Tryz.prog) (S := 27) (c := (Pk.cells ({ { { { { { { { (zk p.kind) with clean := p.clean } with keep := p.keep } with props := p.props } with client := p.client } with hasWill := p.hasWill } with hasUser := p.hasUser } with hasPass := p.hasPass } with user := p.user }) ({ (⟨none, 0, none, 0, none, 0, none, 0⟩ : Sl) with pa := s.pa, pc := s.pc }))) _ (H.b.at_ (j := 1) rfl).1 (gs_27 _) rfl (pk_one _ _)
      refine hz_st (ex_store rfl (F.e rfl) (F.e rfl) hr) ?_; clear hr; replace H : Hp _ _ [_, _, _] := Hp.turn [_] H hk hB; clear hk hB
      refine wpList_nil ?_
      refine hK31 _ _ ?_
      refine gx_ret ?_
      refine (show bodyPost Tryz.prog Tryz.f15 (fun e w' => e = .returned (Pk.val (bareP p) (ownSl p s)) ∧ Kept No w w') Exit.ret _ _ from ?_)
      exact bodyPost_ret (fn := Tryz.f15) (gx_resc rfl (F.g 2 _ rfl) (gl_agg ((Pk.cells ({ { { { { { { { (zk p.kind) with clean := p.clean } with keep := p.keep } with props := p.props } with client := p.client } with hasWill := p.hasWill } with hasUser := p.hasUser } with hasPass := p.hasPass } with user := p.user }) ({ (⟨none, 0, none, 0, none, 0, none, 0⟩ : Sl) with pa := s.pa, pc := s.pc }))) rfl (ga_27 _) (gs_27 _) (fun i => H.cs 1 rfl i))) F.d (⟨by unfold Pk.val; exact congrArg (fun x => Ending.returned (.agg x)) (congr (congrArg Pk.cells (by (try simp only [← Bool.not_eq_true, Bool.or_eq_true, Bool.and_eq_true, decide_eq_true_eq] at hb9 hb13 hb27 hb29); unfold bareP; simp only [hb9, hb13, hb27, hb29, ↓reduceIte, or_true, true_or, or_self, Int.reduceEq, or_false, false_or] <;> (first | done | rfl))) (by (try simp only [← Bool.not_eq_true, Bool.or_eq_true, Bool.and_eq_true, decide_eq_true_eq] at hb9 hb13 hb27 hb29); unfold ownSl; simp only [hb9, hb13, hb27, hb29, ↓reduceIte, or_true, true_or, or_self, Int.reduceEq, or_false, false_or] <;> (first | done | rfl))), H.k⟩)
    refine wp_skip ?_
    refine hK25 _ _ ?_
    refine wp_seq_k (fun K32 hK32 => ?_)
    refine gx_region ?_
    refine hz_fld F rfl rfl (F.e rfl) (fa_27_10 _ _ _) (ag_4 _) (H.c 2 rfl rfl) ?_; clear F A; intro A F
    refine wpList_nil ?_
    refine hK32 _ _ ?_
    refine hz_cond (F.e rfl) (fun hb33 => ?_) (fun hb33 => ?_)
    · skip
      refine gx_region ?_
      refine hz_fld F rfl rfl (F.e rfl) (fa_27_17 _ _ _) (ag_9 _) (H.c 2 rfl rfl) ?_; clear F A; intro A F
      refine hz_do F rfl (ex_faddr rfl (F.e rfl) (fa_27_17 _ _ _)) ?_; clear F A; intro A F
      obtain ⟨W9, hr, hB, hk⟩ := gx_set (P := Tryz.prog) (T := 9) (i := 17) (v := (.string p.pass)) (c' := (Pk.cells ({ { { { { { { { (zk p.kind) with clean := p.clean } with keep := p.keep } with props := p.props } with client := p.client } with hasWill := p.hasWill } with hasUser := p.hasUser } with hasPass := p.hasPass } with pass := p.pass }) ({ (⟨none, 0, none, 0, none, 0, none, 0⟩ : Sl) with pa := s.pa, pc := s.pc }))) _ (H.b.at_ (j := 0) rfl).1 (gs1_9 _) rfl (by simp [Pk.cells, zeroPk]) rfl
      refine hz_st (ex_store rfl (F.e rfl) (F.e rfl) hr) ?_; clear hr; replace H : Hp _ _ [_, _, _] := Hp.turn [] H hk hB; clear hk hB
      refine wpList_nil ?_
      refine hK6 _ _ ?_
      refine wp_seq_k (fun K34 hK34 => ?_)
      refine gx_region ?_
      refine hz_do F rfl (ex_load rfl (F.e rfl) (gl_agg ((Pk.cells ({ { { { { { { { (zk p.kind) with clean := p.clean } with keep := p.keep } with props := p.props } with client := p.client } with hasWill := p.hasWill } with hasUser := p.hasUser } with hasPass := p.hasPass } with pass := p.pass }) ({ (⟨none, 0, none, 0, none, 0, none, 0⟩ : Sl) with pa := s.pa, pc := s.pc }))) rfl (ga_27 _) (gs_27 _) (fun i => H.cs 0 rfl i))) ?_; clear F A; intro A F
      obtain ⟨W9, hr, hB, hk⟩ := gx_storeAgg (P := Tryz.prog) (S := 27) (c := (Pk.cells ({ { { { { { { { (zk p.kind) with clean := p.clean } with keep := p.keep } with props := p.props } with client := p.client } with hasWill := p.hasWill } with hasUser := p.hasUser } with hasPass := p.hasPass } with pass := p.pass }) ({ (⟨none, 0, none, 0, none, 0, none, 0⟩ : Sl) with pa := s.pa, pc := s.pc }))) _ (H.b.at_ (j := 1) rfl).1 (gs_27 _) rfl (pk_one _ _)
      refine hz_st (ex_store rfl (F.e rfl) (F.e rfl) hr) ?_; clear hr; replace H : Hp _ _ [_, _, _] := Hp.turn [_] H hk hB; clear hk hB
      refine wpList_nil ?_
      refine hK34 _ _ ?_
      refine gx_ret ?_
      refine (show bodyPost Tryz.prog Tryz.f15 (fun e w' => e = .returned (Pk.val (bareP p) (ownSl p s)) ∧ Kept No w w') Exit.ret _ _ from ?_)
      exact bodyPost_ret (fn := Tryz.f15) (gx_resc rfl (F.g 2 _ rfl) (gl_agg ((Pk.cells ({ { { { { { { { (zk p.kind) with clean := p.clean } with keep := p.keep } with props := p.props } with client := p.client } with hasWill := p.hasWill } with hasUser := p.hasUser } with hasPass := p.hasPass } with pass := p.pass }) ({ (⟨none, 0, none, 0, none, 0, none, 0⟩ : Sl) with pa := s.pa, pc := s.pc }))) rfl (ga_27 _) (gs_27 _) (fun i => H.cs 1 rfl i))) F.d (⟨by unfold Pk.val; exact congrArg (fun x => Ending.returned (.agg x)) (congr (congrArg Pk.cells (by (try simp only [← Bool.not_eq_true, Bool.or_eq_true, Bool.and_eq_true, decide_eq_true_eq] at hb9 hb13 hb27 hb33); unfold bareP; simp only [hb9, hb13, hb27, hb33, ↓reduceIte, or_true, true_or, or_self, Int.reduceEq, or_false, false_or] <;> (first | done | rfl))) (by (try simp only [← Bool.not_eq_true, Bool.or_eq_true, Bool.and_eq_true, decide_eq_true_eq] at hb9 hb13 hb27 hb33); unfold ownSl; simp only [hb9, hb13, hb27, hb33, ↓reduceIte, or_true, true_or, or_self, Int.reduceEq, or_false, false_or] <;> (first | done | rfl))), H.k⟩)
    refine wp_skip ?_
    refine hK6 _ _ ?_
    refine wp_seq_k (fun K35 hK35 => ?_)
    refine gx_region ?_
    refine hz_do F rfl (ex_load rfl (F.e rfl) (gl_agg ((Pk.cells ({ { { { { { { (zk p.kind) with clean := p.clean } with keep := p.keep } with props := p.props } with client := p.client } with hasWill := p.hasWill } with hasUser := p.hasUser } with hasPass := p.hasPass }) ({ (⟨none, 0, none, 0, none, 0, none, 0⟩ : Sl) with pa := s.pa, pc := s.pc }))) rfl (ga_27 _) (gs_27 _) (fun i => H.cs 0 rfl i))) ?_; clear F A; intro A F
    obtain ⟨W9, hr, hB, hk⟩ := gx_storeAgg (P := Tryz.prog) (S := 27) (c := (Pk.cells ({ { { { { { { (zk p.kind) with clean := p.clean } with keep := p.keep } with props := p.props } with client := p.client } with hasWill := p.hasWill } with hasUser := p.hasUser } with hasPass := p.hasPass }) ({ (⟨none, 0, none, 0, none, 0, none, 0⟩ : Sl) with pa := s.pa, pc := s.pc }))) _ (H.b.at_ (j := 1) rfl).1 (gs_27 _) rfl (pk_one _ _)
    refine hz_st (ex_store rfl (F.e rfl) (F.e rfl) hr) ?_; clear hr; replace H : Hp _ _ [_, _, _] := Hp.turn [_] H hk hB; clear hk hB
    refine wpList_nil ?_
    refine hK35 _ _ ?_
    refine gx_ret ?_
    refine (show bodyPost Tryz.prog Tryz.f15 (fun e w' => e = .returned (Pk.val (bareP p) (ownSl p s)) ∧ Kept No w w') Exit.ret _ _ from ?_)
    exact bodyPost_ret (fn := Tryz.f15) (gx_resc rfl (F.g 2 _ rfl) (gl_agg ((Pk.cells ({ { { { { { { (zk p.kind) with clean := p.clean } with keep := p.keep } with props := p.props } with client := p.client } with hasWill := p.hasWill } with hasUser := p.hasUser } with hasPass := p.hasPass }) ({ (⟨none, 0, none, 0, none, 0, none, 0⟩ : Sl) with pa := s.pa, pc := s.pc }))) rfl (ga_27 _) (gs_27 _) (fun i => H.cs 1 rfl i))) F.d (⟨by unfold Pk.val; exact congrArg (fun x => Ending.returned (.agg x)) (congr (congrArg Pk.cells (by (try simp only [← Bool.not_eq_true, Bool.or_eq_true, Bool.and_eq_true, decide_eq_true_eq] at hb9 hb13 hb27 hb33); unfold bareP; simp only [hb9, hb13, hb27, hb33, ↓reduceIte, or_true, true_or, or_self, Int.reduceEq, or_false, false_or] <;> (first | done | rfl))) (by (try simp only [← Bool.not_eq_true, Bool.or_eq_true, Bool.and_eq_true, decide_eq_true_eq] at hb9 hb13 hb27 hb33); unfold ownSl; simp only [hb9, hb13, hb27, hb33, ↓reduceIte, or_true, true_or, or_self, Int.reduceEq, or_false, false_or] <;> (first | done | rfl))), H.k⟩)
  refine wp_seq_k (fun K36 hK36 => ?_)
  refine gx_region ?_
  refine hz_do F rfl (ex_bin rfl (F.e rfl) gx_evc (rn_eql)) ?_; clear F A; intro A F
  refine hz_do F rfl (ex_assign rfl (F.e rfl)) ?_; clear F A; intro A F
  refine wpList_nil ?_
  refine hK36 _ _ ?_
  refine hz_cond (F.e rfl) (fun hb37 => ?_) (fun hb37 => ?_)
  · skip
    refine wp_region_held_drew (S := fun wx => ∃ c9, Hp _ wx [⟨b5, 27, c9⟩, _, _]) (by kernel_rfl) ⟨_, H.drew⟩ (fun H9 => ?_); clear H9; replace H := H.drew
    generalize World.drew _ = W at *
    refine hzh_do (v := (.pointer (some ⟨b2, 18, none⟩))) (i := 0) F rfl rfl (by kernel_rfl) (fun _ _ _ h => h) ⟨_, H⟩ (fun wz ⟨c9, H⟩ => (ex_faddr rfl (F.e rfl) (fa_27_18 _ _ _))) ?_; clear F A; intro A F
    refine hzh_do (v := (.bool p.present)) (i := 1) F rfl rfl (by kernel_rfl) (fun _ _ _ h => h) ⟨_, H⟩ (fun wz ⟨c9, H⟩ => (ex_load rfl (F.e rfl) (gl_one (ag_4 _) (H.c 2 rfl rfl)))) ?_; clear F A; intro A F
    refine hzh_do (v := (.pointer (some ⟨b2, 19, none⟩))) (i := 2) F rfl rfl (by kernel_rfl) (fun _ _ _ h => h) ⟨_, H⟩ (fun wz ⟨c9, H⟩ => (ex_faddr rfl (F.e rfl) (fa_27_19 _ _ _))) ?_; clear F A; intro A F
    refine hzh_do (v := (.int .u8 ((p.code : Int)))) (i := 3) F rfl rfl (by kernel_rfl) (fun _ _ _ h => h) ⟨_, H⟩ (fun wz ⟨c9, H⟩ => (ex_load rfl (F.e rfl) (gl_one (ag_5 _) (H.c 2 rfl rfl)))) ?_; clear F A; intro A F
    refine hzh_do (v := (.pointer (some ⟨b2, 24, none⟩))) (i := 4) F rfl rfl (by kernel_rfl) (fun _ _ _ h => h) ⟨_, H⟩ (fun wz ⟨c9, H⟩ => (ex_faddr rfl (F.e rfl) (fa_27_24 _ _ _))) ?_; clear F A; intro A F
    refine hzh_do (v := (.slice s.pa p.props.length s.pc)) (i := 5) F rfl rfl (by kernel_rfl) (fun _ _ _ h => h) ⟨_, H⟩ (fun wz ⟨c9, H⟩ => (ex_load rfl (F.e rfl) (gl_one (ag_23 _) (H.c 2 rfl rfl)))) ?_; clear F A; intro A F
    refine hzh_do (v := (.pointer (some ⟨b5, 18, none⟩))) (i := 6) F rfl rfl (by kernel_rfl) (fun _ _ _ h => h) ⟨_, H⟩ (fun wz ⟨c9, H⟩ => (ex_faddr rfl (F.e rfl) (fa_27_18 _ _ _))) ?_; clear F A; intro A F
    obtain ⟨W9, hr, hB, hk⟩ := gx_set (P := Tryz.prog) (T := 4) (i := 18) (v := (.bool p.present)) (c' := (Pk.cells ({ (zk p.kind) with present := p.present }) ((⟨none, 0, none, 0, none, 0, none, 0⟩ : Sl)))) _ (H.b.at_ (j := 0) rfl).1 (gs1_4 _) rfl (by simp [Pk.cells, zeroPk]) rfl
    replace H : Hp _ _ [_, _, _] := Hp.turn [] H hk hB; clear hk hB; refine gxh_st (i := 7) rfl (by kernel_rfl) (gx_w rfl) rfl (ex_store rfl (F.e rfl) (F.e rfl) hr) ⟨_, H⟩ ?_; clear hr
    refine hzh_do (v := (.pointer (some ⟨b5, 19, none⟩))) (i := 8) F rfl rfl (by kernel_rfl) (fun _ _ _ h => h) ⟨_, H⟩ (fun wz ⟨c9, H⟩ => (ex_faddr rfl (F.e rfl) (fa_27_19 _ _ _))) ?_; clear F A; intro A F
    obtain ⟨W9, hr, hB, hk⟩ := gx_set (P := Tryz.prog) (T := 5) (i := 19) (v := (.int .u8 ((p.code : Int)))) (c' := (Pk.cells ({ { (zk p.kind) with present := p.present } with code := p.code }) ((⟨none, 0, none, 0, none, 0, none, 0⟩ : Sl)))) _ (H.b.at_ (j := 0) rfl).1 (gs1_5 _) rfl (by simp [Pk.cells, zeroPk]) rfl
    replace H : Hp _ _ [_, _, _] := Hp.turn [] H hk hB; clear hk hB; refine gxh_st (i := 9) rfl (by kernel_rfl) (gx_w rfl) rfl (ex_store rfl (F.e rfl) (F.e rfl) hr) ⟨_, H⟩ ?_; clear hr
    refine hzh_do (v := (.pointer (some ⟨b5, 24, none⟩))) (i := 10) F rfl rfl (by kernel_rfl) (fun _ _ _ h => h) ⟨_, H⟩ (fun wz ⟨c9, H⟩ => (ex_faddr rfl (F.e rfl) (fa_27_24 _ _ _))) ?_; clear F A; intro A F
    obtain ⟨W9, hr, hB, hk⟩ := gx_set (P := Tryz.prog) (T := 23) (i := 24) (v := (.slice s.pa p.props.length s.pc)) (c' := (Pk.cells ({ { { (zk p.kind) with present := p.present } with code := p.code } with props := p.props }) ({ (⟨none, 0, none, 0, none, 0, none, 0⟩ : Sl) with pa := s.pa, pc := s.pc }))) _ (H.b.at_ (j := 0) rfl).1 (gs1_23 _) rfl (by simp [Pk.cells, zeroPk]) rfl
    replace H : Hp _ _ [_, _, _] := Hp.turn [] H hk hB; clear hk hB; refine gxh_st (i := 11) rfl (by kernel_rfl) (gx_w rfl) rfl (ex_store rfl (F.e rfl) (F.e rfl) hr) ⟨_, H⟩ ?_; clear hr
    refine wpAnyH_done (by kernel_rfl) ?_ _
    refine hK6 _ _ ?_
    refine wp_seq_k (fun K38 hK38 => ?_)
    refine gx_region ?_
    refine hz_do F rfl (ex_load rfl (F.e rfl) (gl_agg ((Pk.cells ({ { { (zk p.kind) with present := p.present } with code := p.code } with props := p.props }) ({ (⟨none, 0, none, 0, none, 0, none, 0⟩ : Sl) with pa := s.pa, pc := s.pc }))) rfl (ga_27 _) (gs_27 _) (fun i => H.cs 0 rfl i))) ?_; clear F A; intro A F
    obtain ⟨W9, hr, hB, hk⟩ := gx_storeAgg (P := Tryz.prog) (S := 27) (c := (Pk.cells ({ { { (zk p.kind) with present := p.present } with code := p.code } with props := p.props }) ({ (⟨none, 0, none, 0, none, 0, none, 0⟩ : Sl) with pa := s.pa, pc := s.pc }))) _ (H.b.at_ (j := 1) rfl).1 (gs_27 _) rfl (pk_one _ _)
    refine hz_st (ex_store rfl (F.e rfl) (F.e rfl) hr) ?_; clear hr; replace H : Hp _ _ [_, _, _] := Hp.turn [_] H hk hB; clear hk hB
    refine wpList_nil ?_
    refine hK38 _ _ ?_
    refine gx_ret ?_
    refine (show bodyPost Tryz.prog Tryz.f15 (fun e w' => e = .returned (Pk.val (bareP p) (ownSl p s)) ∧ Kept No w w') Exit.ret _ _ from ?_)
    exact bodyPost_ret (fn := Tryz.f15) (gx_resc rfl (F.g 2 _ rfl) (gl_agg ((Pk.cells ({ { { (zk p.kind) with present := p.present } with code := p.code } with props := p.props }) ({ (⟨none, 0, none, 0, none, 0, none, 0⟩ : Sl) with pa := s.pa, pc := s.pc }))) rfl (ga_27 _) (gs_27 _) (fun i => H.cs 1 rfl i))) F.d (⟨by unfold Pk.val; exact congrArg (fun x => Ending.returned (.agg x)) (congr (congrArg Pk.cells (by (try simp only [← Bool.not_eq_true, Bool.or_eq_true, Bool.and_eq_true, decide_eq_true_eq] at hb9 hb37); unfold bareP; simp only [hb9, hb37, ↓reduceIte, or_true, true_or, or_self, Int.reduceEq, or_false, false_or] <;> (first | done | rfl))) (by (try simp only [← Bool.not_eq_true, Bool.or_eq_true, Bool.and_eq_true, decide_eq_true_eq] at hb9 hb37); unfold ownSl; simp only [hb9, hb37, ↓reduceIte, or_true, true_or, or_self, Int.reduceEq, or_false, false_or] <;> (first | done | rfl))), H.k⟩)
  refine wp_seq_k (fun K39 hK39 => ?_)
  refine gx_region ?_
  refine hz_do F rfl (ex_bin rfl (F.e rfl) gx_evc (rn_eql)) ?_; clear F A; intro A F
  refine hz_do F rfl (ex_assign rfl (F.e rfl)) ?_; clear F A; intro A F
  refine wpList_nil ?_
  refine hK39 _ _ ?_
  refine hz_cond (F.e rfl) (fun hb40 => ?_) (fun hb40 => ?_)
  · skip
    refine wp_region_held_drew (S := fun wx => ∃ c9, Hp _ wx [⟨b5, 27, c9⟩, _, _]) (by kernel_rfl) ⟨_, H.drew⟩ (fun H9 => ?_); clear H9; replace H := H.drew
    generalize World.drew _ = W at *
    refine hzh_do (v := (.pointer (some ⟨b2, 1, none⟩))) (i := 0) F rfl rfl (by kernel_rfl) (fun _ _ _ h => h) ⟨_, H⟩ (fun wz ⟨c9, H⟩ => (ex_faddr rfl (F.e rfl) (fa_27_1 _ _ _))) ?_; clear F A; intro A F
    refine hzh_do (v := (.bool p.dup)) (i := 1) F rfl rfl (by kernel_rfl) (fun _ _ _ h => h) ⟨_, H⟩ (fun wz ⟨c9, H⟩ => (ex_load rfl (F.e rfl) (gl_one (ag_4 _) (H.c 2 rfl rfl)))) ?_; clear F A; intro A F
    refine hzh_do (v := (.pointer (some ⟨b2, 3, none⟩))) (i := 2) F rfl rfl (by kernel_rfl) (fun _ _ _ h => h) ⟨_, H⟩ (fun wz ⟨c9, H⟩ => (ex_faddr rfl (F.e rfl) (fa_27_3 _ _ _))) ?_; clear F A; intro A F
    refine hzh_do (v := (.int .u8 ((p.qos : Int)))) (i := 3) F rfl rfl (by kernel_rfl) (fun _ _ _ h => h) ⟨_, H⟩ (fun wz ⟨c9, H⟩ => (ex_load rfl (F.e rfl) (gl_one (ag_5 _) (H.c 2 rfl rfl)))) ?_; clear F A; intro A F
    refine hzh_do (v := (.pointer (some ⟨b2, 2, none⟩))) (i := 4) F rfl rfl (by kernel_rfl) (fun _ _ _ h => h) ⟨_, H⟩ (fun wz ⟨c9, H⟩ => (ex_faddr rfl (F.e rfl) (fa_27_2 _ _ _))) ?_; clear F A; intro A F
    refine hzh_do (v := (.bool p.retain)) (i := 5) F rfl rfl (by kernel_rfl) (fun _ _ _ h => h) ⟨_, H⟩ (fun wz ⟨c9, H⟩ => (ex_load rfl (F.e rfl) (gl_one (ag_4 _) (H.c 2 rfl rfl)))) ?_; clear F A; intro A F
    refine hzh_do (v := (.pointer (some ⟨b2, 20, none⟩))) (i := 6) F rfl rfl (by kernel_rfl) (fun _ _ _ h => h) ⟨_, H⟩ (fun wz ⟨c9, H⟩ => (ex_faddr rfl (F.e rfl) (fa_27_20 _ _ _))) ?_; clear F A; intro A F
    refine hzh_do (v := (.string p.topic)) (i := 7) F rfl rfl (by kernel_rfl) (fun _ _ _ h => h) ⟨_, H⟩ (fun wz ⟨c9, H⟩ => (ex_load rfl (F.e rfl) (gl_one (ag_9 _) (H.c 2 rfl rfl)))) ?_; clear F A; intro A F
    refine hzh_do (v := (.pointer (some ⟨b2, 4, none⟩))) (i := 8) F rfl rfl (by kernel_rfl) (fun _ _ _ h => h) ⟨_, H⟩ (fun wz ⟨c9, H⟩ => (ex_faddr rfl (F.e rfl) (fa_27_4 _ _ _))) ?_; clear F A; intro A F
    refine hzh_do (v := (.int .u16 ((p.id : Int)))) (i := 9) F rfl rfl (by kernel_rfl) (fun _ _ _ h => h) ⟨_, H⟩ (fun wz ⟨c9, H⟩ => (ex_load rfl (F.e rfl) (gl_one (ag_22 _) (H.c 2 rfl rfl)))) ?_; clear F A; intro A F
    refine hzh_do (v := (.pointer (some ⟨b2, 24, none⟩))) (i := 10) F rfl rfl (by kernel_rfl) (fun _ _ _ h => h) ⟨_, H⟩ (fun wz ⟨c9, H⟩ => (ex_faddr rfl (F.e rfl) (fa_27_24 _ _ _))) ?_; clear F A; intro A F
    refine hzh_do (v := (.slice s.pa p.props.length s.pc)) (i := 11) F rfl rfl (by kernel_rfl) (fun _ _ _ h => h) ⟨_, H⟩ (fun wz ⟨c9, H⟩ => (ex_load rfl (F.e rfl) (gl_one (ag_23 _) (H.c 2 rfl rfl)))) ?_; clear F A; intro A F
    refine hzh_do (v := (.pointer (some ⟨b2, 21, none⟩))) (i := 12) F rfl rfl (by kernel_rfl) (fun _ _ _ h => h) ⟨_, H⟩ (fun wz ⟨c9, H⟩ => (ex_faddr rfl (F.e rfl) (fa_27_21 _ _ _))) ?_; clear F A; intro A F
    refine hzh_do (v := (.string p.load)) (i := 13) F rfl rfl (by kernel_rfl) (fun _ _ _ h => h) ⟨_, H⟩ (fun wz ⟨c9, H⟩ => (ex_load rfl (F.e rfl) (gl_one (ag_9 _) (H.c 2 rfl rfl)))) ?_; clear F A; intro A F
    refine hzh_do (v := (.pointer (some ⟨b5, 1, none⟩))) (i := 14) F rfl rfl (by kernel_rfl) (fun _ _ _ h => h) ⟨_, H⟩ (fun wz ⟨c9, H⟩ => (ex_faddr rfl (F.e rfl) (fa_27_1 _ _ _))) ?_; clear F A; intro A F
    obtain ⟨W9, hr, hB, hk⟩ := gx_set (P := Tryz.prog) (T := 4) (i := 1) (v := (.bool p.dup)) (c' := (Pk.cells ({ (zk p.kind) with dup := p.dup }) ((⟨none, 0, none, 0, none, 0, none, 0⟩ : Sl)))) _ (H.b.at_ (j := 0) rfl).1 (gs1_4 _) rfl (by simp [Pk.cells, zeroPk]) rfl
    replace H : Hp _ _ [_, _, _] := Hp.turn [] H hk hB; clear hk hB; refine gxh_st (i := 15) rfl (by kernel_rfl) (gx_w rfl) rfl (ex_store rfl (F.e rfl) (F.e rfl) hr) ⟨_, H⟩ ?_; clear hr
    refine hzh_do (v := (.pointer (some ⟨b5, 3, none⟩))) (i := 16) F rfl rfl (by kernel_rfl) (fun _ _ _ h => h) ⟨_, H⟩ (fun wz ⟨c9, H⟩ => (ex_faddr rfl (F.e rfl) (fa_27_3 _ _ _))) ?_; clear F A; intro A F
    obtain ⟨W9, hr, hB, hk⟩ := gx_set (P := Tryz.prog) (T := 5) (i := 3) (v := (.int .u8 ((p.qos : Int)))) (c' := (Pk.cells ({ { (zk p.kind) with dup := p.dup } with qos := p.qos }) ((⟨none, 0, none, 0, none, 0, none, 0⟩ : Sl)))) _ (H.b.at_ (j := 0) rfl).1 (gs1_5 _) rfl (by simp [Pk.cells, zeroPk]) rfl
    replace H : Hp _ _ [_, _, _] := Hp.turn [] H hk hB; clear hk hB; refine gxh_st (i := 17) rfl (by kernel_rfl) (gx_w rfl) rfl (ex_store rfl (F.e rfl) (F.e rfl) hr) ⟨_, H⟩ ?_; clear hr
    refine hzh_do (v := (.pointer (some ⟨b5, 2, none⟩))) (i := 18) F rfl rfl (by kernel_rfl) (fun _ _ _ h => h) ⟨_, H⟩ (fun wz ⟨c9, H⟩ => (ex_faddr rfl (F.e rfl) (fa_27_2 _ _ _))) ?_; clear F A; intro A F
    obtain ⟨W9, hr, hB, hk⟩ := gx_set (P := Tryz.prog) (T := 4) (i := 2) (v := (.bool p.retain)) (c' := (Pk.cells ({ { { (zk p.kind) with dup := p.dup } with qos := p.qos } with retain := p.retain }) ((⟨none, 0, none, 0, none, 0, none, 0⟩ : Sl)))) _ (H.b.at_ (j := 0) rfl).1 (gs1_4 _) rfl (by simp [Pk.cells, zeroPk]) rfl
    replace H : Hp _ _ [_, _, _] := Hp.turn [] H hk hB; clear hk hB; refine gxh_st (i := 19) rfl (by kernel_rfl) (gx_w rfl) rfl (ex_store rfl (F.e rfl) (F.e rfl) hr) ⟨_, H⟩ ?_; clear hr
    refine hzh_do (v := (.pointer (some ⟨b5, 20, none⟩))) (i := 20) F rfl rfl (by kernel_rfl) (fun _ _ _ h => h) ⟨_, H⟩ (fun wz ⟨c9, H⟩ => (ex_faddr rfl (F.e rfl) (fa_27_20 _ _ _))) ?_; clear F A; intro A F
    obtain ⟨W9, hr, hB, hk⟩ := gx_set (P := Tryz.prog) (T := 9) (i := 20) (v := (.string p.topic)) (c' := (Pk.cells ({ { { { (zk p.kind) with dup := p.dup } with qos := p.qos } with retain := p.retain } with topic := p.topic }) ((⟨none, 0, none, 0, none, 0, none, 0⟩ : Sl)))) _ (H.b.at_ (j := 0) rfl).1 (gs1_9 _) rfl (by simp [Pk.cells, zeroPk]) rfl
    replace H : Hp _ _ [_, _, _] := Hp.turn [] H hk hB; clear hk hB; refine gxh_st (i := 21) rfl (by kernel_rfl) (gx_w rfl) rfl (ex_store rfl (F.e rfl) (F.e rfl) hr) ⟨_, H⟩ ?_; clear hr
    refine hzh_do (v := (.pointer (some ⟨b5, 4, none⟩))) (i := 22) F rfl rfl (by kernel_rfl) (fun _ _ _ h => h) ⟨_, H⟩ (fun wz ⟨c9, H⟩ => (ex_faddr rfl (F.e rfl) (fa_27_4 _ _ _))) ?_; clear F A; intro A F
    obtain ⟨W9, hr, hB, hk⟩ := gx_set (P := Tryz.prog) (T := 22) (i := 4) (v := (.int .u16 ((p.id : Int)))) (c' := (Pk.cells ({ { { { { (zk p.kind) with dup := p.dup } with qos := p.qos } with retain := p.retain } with topic := p.topic } with id := p.id }) ((⟨none, 0, none, 0, none, 0, none, 0⟩ : Sl)))) _ (H.b.at_ (j := 0) rfl).1 (gs1_22 _) rfl (by simp [Pk.cells, zeroPk]) rfl
    replace H : Hp _ _ [_, _, _] := Hp.turn [] H hk hB; clear hk hB; refine gxh_st (i := 23) rfl (by kernel_rfl) (gx_w rfl) rfl (ex_store rfl (F.e rfl) (F.e rfl) hr) ⟨_, H⟩ ?_; clear hr
    refine hzh_do (v := (.pointer (some ⟨b5, 24, none⟩))) (i := 24) F rfl rfl (by kernel_rfl) (fun _ _ _ h => h) ⟨_, H⟩ (fun wz ⟨c9, H⟩ => (ex_faddr rfl (F.e rfl) (fa_27_24 _ _ _))) ?_; clear F A; intro A F
    obtain ⟨W9, hr, hB, hk⟩ := gx_set (P := Tryz.prog) (T := 23) (i := 24) (v := (.slice s.pa p.props.length s.pc)) (c' := (Pk.cells ({ { { { { { (zk p.kind) with dup := p.dup } with qos := p.qos } with retain := p.retain } with topic := p.topic } with id := p.id } with props := p.props }) ({ (⟨none, 0, none, 0, none, 0, none, 0⟩ : Sl) with pa := s.pa, pc := s.pc }))) _ (H.b.at_ (j := 0) rfl).1 (gs1_23 _) rfl (by simp [Pk.cells, zeroPk]) rfl
    replace H : Hp _ _ [_, _, _] := Hp.turn [] H hk hB; clear hk hB; refine gxh_st (i := 25) rfl (by kernel_rfl) (gx_w rfl) rfl (ex_store rfl (F.e rfl) (F.e rfl) hr) ⟨_, H⟩ ?_; clear hr
    refine hzh_do (v := (.pointer (some ⟨b5, 21, none⟩))) (i := 26) F rfl rfl (by kernel_rfl) (fun _ _ _ h => h) ⟨_, H⟩ (fun wz ⟨c9, H⟩ => (ex_faddr rfl (F.e rfl) (fa_27_21 _ _ _))) ?_; clear F A; intro A F
    obtain ⟨W9, hr, hB, hk⟩ := gx_set (P := Tryz.prog) (T := 9) (i := 21) (v := (.string p.load)) (c' := (Pk.cells ({ { { { { { { (zk p.kind) with dup := p.dup } with qos := p.qos } with retain := p.retain } with topic := p.topic } with id := p.id } with props := p.props } with load := p.load }) ({ (⟨none, 0, none, 0, none, 0, none, 0⟩ : Sl) with pa := s.pa, pc := s.pc }))) _ (H.b.at_ (j := 0) rfl).1 (gs1_9 _) rfl (by simp [Pk.cells, zeroPk]) rfl
    replace H : Hp _ _ [_, _, _] := Hp.turn [] H hk hB; clear hk hB; refine gxh_st (i := 27) rfl (by kernel_rfl) (gx_w rfl) rfl (ex_store rfl (F.e rfl) (F.e rfl) hr) ⟨_, H⟩ ?_; clear hr
    refine wpAnyH_done (by kernel_rfl) ?_ _
    refine hK6 _ _ ?_
    refine wp_seq_k (fun K41 hK41 => ?_)
    refine gx_region ?_
    refine hz_do F rfl (ex_load rfl (F.e rfl) (gl_agg ((Pk.cells ({ { { { { { { (zk p.kind) with dup := p.dup } with qos := p.qos } with retain := p.retain } with topic := p.topic } with id := p.id } with props := p.props } with load := p.load }) ({ (⟨none, 0, none, 0, none, 0, none, 0⟩ : Sl) with pa := s.pa, pc := s.pc }))) rfl (ga_27 _) (gs_27 _) (fun i => H.cs 0 rfl i))) ?_; clear F A; intro A F
    obtain ⟨W9, hr, hB, hk⟩ := gx_storeAgg (P := Tryz.prog) (S := 27) (c := (Pk.cells ({ { { { { { { (zk p.kind) with dup := p.dup } with qos := p.qos } with retain := p.retain } with topic := p.topic } with id := p.id } with props := p.props } with load := p.load }) ({ (⟨none, 0, none, 0, none, 0, none, 0⟩ : Sl) with pa := s.pa, pc := s.pc }))) _ (H.b.at_ (j := 1) rfl).1 (gs_27 _) rfl (pk_one _ _)
    refine hz_st (ex_store rfl (F.e rfl) (F.e rfl) hr) ?_; clear hr; replace H : Hp _ _ [_, _, _] := Hp.turn [_] H hk hB; clear hk hB
    refine wpList_nil ?_
    refine hK41 _ _ ?_
    refine gx_ret ?_
    refine (show bodyPost Tryz.prog Tryz.f15 (fun e w' => e = .returned (Pk.val (bareP p) (ownSl p s)) ∧ Kept No w w') Exit.ret _ _ from ?_)
    exact bodyPost_ret (fn := Tryz.f15) (gx_resc rfl (F.g 2 _ rfl) (gl_agg ((Pk.cells ({ { { { { { { (zk p.kind) with dup := p.dup } with qos := p.qos } with retain := p.retain } with topic := p.topic } with id := p.id } with props := p.props } with load := p.load }) ({ (⟨none, 0, none, 0, none, 0, none, 0⟩ : Sl) with pa := s.pa, pc := s.pc }))) rfl (ga_27 _) (gs_27 _) (fun i => H.cs 1 rfl i))) F.d (⟨by unfold Pk.val; exact congrArg (fun x => Ending.returned (.agg x)) (congr (congrArg Pk.cells (by (try simp only [← Bool.not_eq_true, Bool.or_eq_true, Bool.and_eq_true, decide_eq_true_eq] at hb9 hb37 hb40); unfold bareP; simp only [hb9, hb37, hb40, ↓reduceIte, or_true, true_or, or_self, Int.reduceEq, or_false, false_or] <;> (first | done | rfl))) (by (try simp only [← Bool.not_eq_true, Bool.or_eq_true, Bool.and_eq_true, decide_eq_true_eq] at hb9 hb37 hb40); unfold ownSl; simp only [hb9, hb37, hb40, ↓reduceIte, or_true, true_or, or_self, Int.reduceEq, or_false, false_or] <;> (first | done | rfl))), H.k⟩)
  refine wp_seq_k (fun K42 hK42 => ?_)
  refine wp_seq_k (fun K43 hK43 => ?_)
  refine gx_region ?_
  refine hz_do F rfl (ex_bin rfl (F.e rfl) gx_evc (rn_eql)) ?_; clear F A; intro A F
  refine hz_do F rfl (ex_assign rfl (F.e rfl)) ?_; clear F A; intro A F
  refine wpList_nil ?_
  refine hK43 _ _ ?_
  refine hz_cond (F.e rfl) (fun hb44 => ?_) (fun hb44 => ?_)
  · skip
    refine wp_skip ?_
    refine hK42 _ _ ?_
    refine wp_cond_true ((F.e rfl).trans (congrArg Value.bool hb44)) ?_
    refine wp_region_held_drew (S := fun wx => ∃ c9, Hp _ wx [⟨b5, 27, c9⟩, _, _]) (by kernel_rfl) ⟨_, H.drew⟩ (fun H9 => ?_); clear H9; replace H := H.drew
    generalize World.drew _ = W at *
    refine hzh_do (v := (.pointer (some ⟨b2, 4, none⟩))) (i := 0) F rfl rfl (by kernel_rfl) (fun _ _ _ h => h) ⟨_, H⟩ (fun wz ⟨c9, H⟩ => (ex_faddr rfl (F.e rfl) (fa_27_4 _ _ _))) ?_; clear F A; intro A F
    refine hzh_do (v := (.int .u16 ((p.id : Int)))) (i := 1) F rfl rfl (by kernel_rfl) (fun _ _ _ h => h) ⟨_, H⟩ (fun wz ⟨c9, H⟩ => (ex_load rfl (F.e rfl) (gl_one (ag_22 _) (H.c 2 rfl rfl)))) ?_; clear F A; intro A F
    refine hzh_do (v := (.pointer (some ⟨b2, 19, none⟩))) (i := 2) F rfl rfl (by kernel_rfl) (fun _ _ _ h => h) ⟨_, H⟩ (fun wz ⟨c9, H⟩ => (ex_faddr rfl (F.e rfl) (fa_27_19 _ _ _))) ?_; clear F A; intro A F
    refine hzh_do (v := (.int .u8 ((p.code : Int)))) (i := 3) F rfl rfl (by kernel_rfl) (fun _ _ _ h => h) ⟨_, H⟩ (fun wz ⟨c9, H⟩ => (ex_load rfl (F.e rfl) (gl_one (ag_5 _) (H.c 2 rfl rfl)))) ?_; clear F A; intro A F
    refine hzh_do (v := (.pointer (some ⟨b2, 24, none⟩))) (i := 4) F rfl rfl (by kernel_rfl) (fun _ _ _ h => h) ⟨_, H⟩ (fun wz ⟨c9, H⟩ => (ex_faddr rfl (F.e rfl) (fa_27_24 _ _ _))) ?_; clear F A; intro A F
    refine hzh_do (v := (.slice s.pa p.props.length s.pc)) (i := 5) F rfl rfl (by kernel_rfl) (fun _ _ _ h => h) ⟨_, H⟩ (fun wz ⟨c9, H⟩ => (ex_load rfl (F.e rfl) (gl_one (ag_23 _) (H.c 2 rfl rfl)))) ?_; clear F A; intro A F
    refine hzh_do (v := (.pointer (some ⟨b5, 4, none⟩))) (i := 6) F rfl rfl (by kernel_rfl) (fun _ _ _ h => h) ⟨_, H⟩ (fun wz ⟨c9, H⟩ => (ex_faddr rfl (F.e rfl) (fa_27_4 _ _ _))) ?_; clear F A; intro A F
    obtain ⟨W9, hr, hB, hk⟩ := gx_set (P := Tryz.prog) (T := 22) (i := 4) (v := (.int .u16 ((p.id : Int)))) (c' := (Pk.cells ({ (zk p.kind) with id := p.id }) ((⟨none, 0, none, 0, none, 0, none, 0⟩ : Sl)))) _ (H.b.at_ (j := 0) rfl).1 (gs1_22 _) rfl (by simp [Pk.cells, zeroPk]) rfl
    replace H : Hp _ _ [_, _, _] := Hp.turn [] H hk hB; clear hk hB; refine gxh_st (i := 7) rfl (by kernel_rfl) (gx_w rfl) rfl (ex_store rfl (F.e rfl) (F.e rfl) hr) ⟨_, H⟩ ?_; clear hr
    refine hzh_do (v := (.pointer (some ⟨b5, 19, none⟩))) (i := 8) F rfl rfl (by kernel_rfl) (fun _ _ _ h => h) ⟨_, H⟩ (fun wz ⟨c9, H⟩ => (ex_faddr rfl (F.e rfl) (fa_27_19 _ _ _))) ?_; clear F A; intro A F
    obtain ⟨W9, hr, hB, hk⟩ := gx_set (P := Tryz.prog) (T := 5) (i := 19) (v := (.int .u8 ((p.code : Int)))) (c' := (Pk.cells ({ { (zk p.kind) with id := p.id } with code := p.code }) ((⟨none, 0, none, 0, none, 0, none, 0⟩ : Sl)))) _ (H.b.at_ (j := 0) rfl).1 (gs1_5 _) rfl (by simp [Pk.cells, zeroPk]) rfl
    replace H : Hp _ _ [_, _, _] := Hp.turn [] H hk hB; clear hk hB; refine gxh_st (i := 9) rfl (by kernel_rfl) (gx_w rfl) rfl (ex_store rfl (F.e rfl) (F.e rfl) hr) ⟨_, H⟩ ?_; clear hr
    refine hzh_do (v := (.pointer (some ⟨b5, 24, none⟩))) (i := 10) F rfl rfl (by kernel_rfl) (fun _ _ _ h => h) ⟨_, H⟩ (fun wz ⟨c9, H⟩ => (ex_faddr rfl (F.e rfl) (fa_27_24 _ _ _))) ?_; clear F A; intro A F
    obtain ⟨W9, hr, hB, hk⟩ := gx_set (P := Tryz.prog) (T := 23) (i := 24) (v := (.slice s.pa p.props.length s.pc)) (c' := (Pk.cells ({ { { (zk p.kind) with id := p.id } with code := p.code } with props := p.props }) ({ (⟨none, 0, none, 0, none, 0, none, 0⟩ : Sl) with pa := s.pa, pc := s.pc }))) _ (H.b.at_ (j := 0) rfl).1 (gs1_23 _) rfl (by simp [Pk.cells, zeroPk]) rfl
    replace H : Hp _ _ [_, _, _] := Hp.turn [] H hk hB; clear hk hB; refine gxh_st (i := 11) rfl (by kernel_rfl) (gx_w rfl) rfl (ex_store rfl (F.e rfl) (F.e rfl) hr) ⟨_, H⟩ ?_; clear hr
    refine wpAnyH_done (by kernel_rfl) ?_ _
    refine hK6 _ _ ?_
    refine wp_seq_k (fun K45 hK45 => ?_)
    refine gx_region ?_
    refine hz_do F rfl (ex_load rfl (F.e rfl) (gl_agg ((Pk.cells ({ { { (zk p.kind) with id := p.id } with code := p.code } with props := p.props }) ({ (⟨none, 0, none, 0, none, 0, none, 0⟩ : Sl) with pa := s.pa, pc := s.pc }))) rfl (ga_27 _) (gs_27 _) (fun i => H.cs 0 rfl i))) ?_; clear F A; intro A F
    obtain ⟨W9, hr, hB, hk⟩ := gx_storeAgg (P := Tryz.prog) (S := 27) (c := (Pk.cells ({ { { (zk p.kind) with id := p.id } with code := p.code } with props := p.props }) ({ (⟨none, 0, none, 0, none, 0, none, 0⟩ : Sl) with pa := s.pa, pc := s.pc }))) _ (H.b.at_ (j := 1) rfl).1 (gs_27 _) rfl (pk_one _ _)
    refine hz_st (ex_store rfl (F.e rfl) (F.e rfl) hr) ?_; clear hr; replace H : Hp _ _ [_, _, _] := Hp.turn [_] H hk hB; clear hk hB
    refine wpList_nil ?_
    refine hK45 _ _ ?_
    refine gx_ret ?_
    refine (show bodyPost Tryz.prog Tryz.f15 (fun e w' => e = .returned (Pk.val (bareP p) (ownSl p s)) ∧ Kept No w w') Exit.ret _ _ from ?_)
    exact bodyPost_ret (fn := Tryz.f15) (gx_resc rfl (F.g 2 _ rfl) (gl_agg ((Pk.cells ({ { { (zk p.kind) with id := p.id } with code := p.code } with props := p.props }) ({ (⟨none, 0, none, 0, none, 0, none, 0⟩ : Sl) with pa := s.pa, pc := s.pc }))) rfl (ga_27 _) (gs_27 _) (fun i => H.cs 1 rfl i))) F.d (⟨by unfold Pk.val; exact congrArg (fun x => Ending.returned (.agg x)) (congr (congrArg Pk.cells (by (try simp only [← Bool.not_eq_true, Bool.or_eq_true, Bool.and_eq_true, decide_eq_true_eq] at hb9 hb37 hb40 hb44); unfold bareP; simp only [hb9, hb37, hb40, hb44, ↓reduceIte, or_true, true_or, or_self, Int.reduceEq, or_false, false_or] <;> (first | done | rfl))) (by (try simp only [← Bool.not_eq_true, Bool.or_eq_true, Bool.and_eq_true, decide_eq_true_eq] at hb9 hb37 hb40 hb44); unfold ownSl; simp only [hb9, hb37, hb40, hb44, ↓reduceIte, or_true, true_or, or_self, Int.reduceEq, or_false, false_or] <;> (first | done | rfl))), H.k⟩)
  refine wp_seq_k (fun K46 hK46 => ?_)
  refine gx_region ?_
  refine hz_do F rfl (ex_bin rfl (F.e rfl) gx_evc (rn_eql)) ?_; clear F A; intro A F
  refine hz_do F rfl (ex_assign rfl (F.e rfl)) ?_; clear F A; intro A F
  refine wpList_nil ?_
  refine hK46 _ _ ?_
  refine hz_cond (F.e rfl) (fun hb47 => ?_) (fun hb47 => ?_)
  · skip
    replace F := (((((F.nil.cons (F.g 93 _ rfl)).cons (F.g 8 _ rfl)).cons (F.g 3 _ rfl)).cons (F.g 2 _ rfl)).cons (F.g 1 _ rfl))
    refine wp_skip ?_
    refine hK42 _ _ ?_
    refine wp_cond_true ((F.e rfl).trans (congrArg Value.bool hb47)) ?_
    refine wp_region_held_drew (S := fun wx => ∃ c9, Hp _ wx [⟨b5, 27, c9⟩, _, _]) (by kernel_rfl) ⟨_, H.drew⟩ (fun H9 => ?_); clear H9; replace H := H.drew
    generalize World.drew _ = W at *
    refine hzh_do (v := (.pointer (some ⟨b2, 4, none⟩))) (i := 0) F rfl rfl (by kernel_rfl) (fun _ _ _ h => h) ⟨_, H⟩ (fun wz ⟨c9, H⟩ => (ex_faddr rfl (F.e rfl) (fa_27_4 _ _ _))) ?_; clear F A; intro A F
    refine hzh_do (v := (.int .u16 ((p.id : Int)))) (i := 1) F rfl rfl (by kernel_rfl) (fun _ _ _ h => h) ⟨_, H⟩ (fun wz ⟨c9, H⟩ => (ex_load rfl (F.e rfl) (gl_one (ag_22 _) (H.c 2 rfl rfl)))) ?_; clear F A; intro A F
    refine hzh_do (v := (.pointer (some ⟨b2, 19, none⟩))) (i := 2) F rfl rfl (by kernel_rfl) (fun _ _ _ h => h) ⟨_, H⟩ (fun wz ⟨c9, H⟩ => (ex_faddr rfl (F.e rfl) (fa_27_19 _ _ _))) ?_; clear F A; intro A F
    refine hzh_do (v := (.int .u8 ((p.code : Int)))) (i := 3) F rfl rfl (by kernel_rfl) (fun _ _ _ h => h) ⟨_, H⟩ (fun wz ⟨c9, H⟩ => (ex_load rfl (F.e rfl) (gl_one (ag_5 _) (H.c 2 rfl rfl)))) ?_; clear F A; intro A F
    refine hzh_do (v := (.pointer (some ⟨b2, 24, none⟩))) (i := 4) F rfl rfl (by kernel_rfl) (fun _ _ _ h => h) ⟨_, H⟩ (fun wz ⟨c9, H⟩ => (ex_faddr rfl (F.e rfl) (fa_27_24 _ _ _))) ?_; clear F A; intro A F
    refine hzh_do (v := (.slice s.pa p.props.length s.pc)) (i := 5) F rfl rfl (by kernel_rfl) (fun _ _ _ h => h) ⟨_, H⟩ (fun wz ⟨c9, H⟩ => (ex_load rfl (F.e rfl) (gl_one (ag_23 _) (H.c 2 rfl rfl)))) ?_; clear F A; intro A F
    refine hzh_do (v := (.pointer (some ⟨b5, 4, none⟩))) (i := 6) F rfl rfl (by kernel_rfl) (fun _ _ _ h => h) ⟨_, H⟩ (fun wz ⟨c9, H⟩ => (ex_faddr rfl (F.e rfl) (fa_27_4 _ _ _))) ?_; clear F A; intro A F
    obtain ⟨W9, hr, hB, hk⟩ := gx_set (P := Tryz.prog) (T := 22) (i := 4) (v := (.int .u16 ((p.id : Int)))) (c' := (Pk.cells ({ (zk p.kind) with id := p.id }) ((⟨none, 0, none, 0, none, 0, none, 0⟩ : Sl)))) _ (H.b.at_ (j := 0) rfl).1 (gs1_22 _) rfl (by simp [Pk.cells, zeroPk]) rfl
    replace H : Hp _ _ [_, _, _] := Hp.turn [] H hk hB; clear hk hB; refine gxh_st (i := 7) rfl (by kernel_rfl) (gx_w rfl) rfl (ex_store rfl (F.e rfl) (F.e rfl) hr) ⟨_, H⟩ ?_; clear hr
    refine hzh_do (v := (.pointer (some ⟨b5, 19, none⟩))) (i := 8) F rfl rfl (by kernel_rfl) (fun _ _ _ h => h) ⟨_, H⟩ (fun wz ⟨c9, H⟩ => (ex_faddr rfl (F.e rfl) (fa_27_19 _ _ _))) ?_; clear F A; intro A F
    obtain ⟨W9, hr, hB, hk⟩ := gx_set (P := Tryz.prog) (T := 5) (i := 19) (v := (.int .u8 ((p.code : Int)))) (c' := (Pk.cells ({ { (zk p.kind) with id := p.id } with code := p.code }) ((⟨none, 0, none, 0, none, 0, none, 0⟩ : Sl)))) _ (H.b.at_ (j := 0) rfl).1 (gs1_5 _) rfl (by simp [Pk.cells, zeroPk]) rfl
    replace H : Hp _ _ [_, _, _] := Hp.turn [] H hk hB; clear hk hB; refine gxh_st (i := 9) rfl (by kernel_rfl) (gx_w rfl) rfl (ex_store rfl (F.e rfl) (F.e rfl) hr) ⟨_, H⟩ ?_; clear hr
    refine hzh_do (v := (.pointer (some ⟨b5, 24, none⟩))) (i := 10) F rfl rfl (by kernel_rfl) (fun _ _ _ h => h) ⟨_, H⟩ (fun wz ⟨c9, H⟩ => (ex_faddr rfl (F.e rfl) (fa_27_24 _ _ _))) ?_; clear F A; intro A F
    obtain ⟨W9, hr, hB, hk⟩ := gx_set (P := Tryz.prog) (T := 23) (i := 24) (v := (.slice s.pa p.props.length s.pc)) (c' := (Pk.cells ({ { { (zk p.kind) with id := p.id } with code := p.code } with props := p.props }) ({ (⟨none, 0, none, 0, none, 0, none, 0⟩ : Sl) with pa := s.pa, pc := s.pc }))) _ (H.b.at_ (j := 0) rfl).1 (gs1_23 _) rfl (by simp [Pk.cells, zeroPk]) rfl
    replace H : Hp _ _ [_, _, _] := Hp.turn [] H hk hB; clear hk hB; refine gxh_st (i := 11) rfl (by kernel_rfl) (gx_w rfl) rfl (ex_store rfl (F.e rfl) (F.e rfl) hr) ⟨_, H⟩ ?_; clear hr
    refine wpAnyH_done (by kernel_rfl) ?_ _
    refine hK6 _ _ ?_
    refine wp_seq_k (fun K48 hK48 => ?_)
    refine gx_region ?_
    refine hz_do F rfl (ex_load rfl (F.e rfl) (gl_agg ((Pk.cells ({ { { (zk p.kind) with id := p.id } with code := p.code } with props := p.props }) ({ (⟨none, 0, none, 0, none, 0, none, 0⟩ : Sl) with pa := s.pa, pc := s.pc }))) rfl (ga_27 _) (gs_27 _) (fun i => H.cs 0 rfl i))) ?_; clear F A; intro A F
    obtain ⟨W9, hr, hB, hk⟩ := gx_storeAgg (P := Tryz.prog) (S := 27) (c := (Pk.cells ({ { { (zk p.kind) with id := p.id } with code := p.code } with props := p.props }) ({ (⟨none, 0, none, 0, none, 0, none, 0⟩ : Sl) with pa := s.pa, pc := s.pc }))) _ (H.b.at_ (j := 1) rfl).1 (gs_27 _) rfl (pk_one _ _)
    refine hz_st (ex_store rfl (F.e rfl) (F.e rfl) hr) ?_; clear hr; replace H : Hp _ _ [_, _, _] := Hp.turn [_] H hk hB; clear hk hB
    refine wpList_nil ?_
    refine hK48 _ _ ?_
    refine gx_ret ?_
    refine (show bodyPost Tryz.prog Tryz.f15 (fun e w' => e = .returned (Pk.val (bareP p) (ownSl p s)) ∧ Kept No w w') Exit.ret _ _ from ?_)
    exact bodyPost_ret (fn := Tryz.f15) (gx_resc rfl (F.g 2 _ rfl) (gl_agg ((Pk.cells ({ { { (zk p.kind) with id := p.id } with code := p.code } with props := p.props }) ({ (⟨none, 0, none, 0, none, 0, none, 0⟩ : Sl) with pa := s.pa, pc := s.pc }))) rfl (ga_27 _) (gs_27 _) (fun i => H.cs 1 rfl i))) F.d (⟨by unfold Pk.val; exact congrArg (fun x => Ending.returned (.agg x)) (congr (congrArg Pk.cells (by (try simp only [← Bool.not_eq_true, Bool.or_eq_true, Bool.and_eq_true, decide_eq_true_eq] at hb9 hb37 hb40 hb44 hb47); unfold bareP; simp only [hb9, hb37, hb40, hb44, hb47, ↓reduceIte, or_true, true_or, or_self, Int.reduceEq, or_false, false_or] <;> (first | done | rfl))) (by (try simp only [← Bool.not_eq_true, Bool.or_eq_true, Bool.and_eq_true, decide_eq_true_eq] at hb9 hb37 hb40 hb44 hb47); unfold ownSl; simp only [hb9, hb37, hb40, hb44, hb47, ↓reduceIte, or_true, true_or, or_self, Int.reduceEq, or_false, false_or] <;> (first | done | rfl))), H.k⟩)
  replace F := (((((F.nil.cons (F.g 93 _ rfl)).cons (F.g 8 _ rfl)).cons (F.g 3 _ rfl)).cons (F.g 2 _ rfl)).cons (F.g 1 _ rfl))
  refine wp_seq_k (fun K49 hK49 => ?_)
  refine gx_region ?_
  refine hz_do F rfl (ex_bin rfl (F.e rfl) gx_evc (rn_eql)) ?_; clear F A; intro A F
  refine hz_do F rfl (ex_assign rfl (F.e rfl)) ?_; clear F A; intro A F
  refine wpList_nil ?_
  refine hK49 _ _ ?_
  refine hz_cond (F.e rfl) (fun hb50 => ?_) (fun hb50 => ?_)
  · skip
    refine wp_skip ?_
    refine hK42 _ _ ?_
    refine wp_cond_true ((F.e rfl).trans (congrArg Value.bool hb50)) ?_
    refine wp_region_held_drew (S := fun wx => ∃ c9, Hp _ wx [⟨b5, 27, c9⟩, _, _]) (by kernel_rfl) ⟨_, H.drew⟩ (fun H9 => ?_); clear H9; replace H := H.drew
    generalize World.drew _ = W at *
    refine hzh_do (v := (.pointer (some ⟨b2, 4, none⟩))) (i := 0) F rfl rfl (by kernel_rfl) (fun _ _ _ h => h) ⟨_, H⟩ (fun wz ⟨c9, H⟩ => (ex_faddr rfl (F.e rfl) (fa_27_4 _ _ _))) ?_; clear F A; intro A F
    refine hzh_do (v := (.int .u16 ((p.id : Int)))) (i := 1) F rfl rfl (by kernel_rfl) (fun _ _ _ h => h) ⟨_, H⟩ (fun wz ⟨c9, H⟩ => (ex_load rfl (F.e rfl) (gl_one (ag_22 _) (H.c 2 rfl rfl)))) ?_; clear F A; intro A F
    refine hzh_do (v := (.pointer (some ⟨b2, 19, none⟩))) (i := 2) F rfl rfl (by kernel_rfl) (fun _ _ _ h => h) ⟨_, H⟩ (fun wz ⟨c9, H⟩ => (ex_faddr rfl (F.e rfl) (fa_27_19 _ _ _))) ?_; clear F A; intro A F
    refine hzh_do (v := (.int .u8 ((p.code : Int)))) (i := 3) F rfl rfl (by kernel_rfl) (fun _ _ _ h => h) ⟨_, H⟩ (fun wz ⟨c9, H⟩ => (ex_load rfl (F.e rfl) (gl_one (ag_5 _) (H.c 2 rfl rfl)))) ?_; clear F A; intro A F
    refine hzh_do (v := (.pointer (some ⟨b2, 24, none⟩))) (i := 4) F rfl rfl (by kernel_rfl) (fun _ _ _ h => h) ⟨_, H⟩ (fun wz ⟨c9, H⟩ => (ex_faddr rfl (F.e rfl) (fa_27_24 _ _ _))) ?_; clear F A; intro A F
    refine hzh_do (v := (.slice s.pa p.props.length s.pc)) (i := 5) F rfl rfl (by kernel_rfl) (fun _ _ _ h => h) ⟨_, H⟩ (fun wz ⟨c9, H⟩ => (ex_load rfl (F.e rfl) (gl_one (ag_23 _) (H.c 2 rfl rfl)))) ?_; clear F A; intro A F
    refine hzh_do (v := (.pointer (some ⟨b5, 4, none⟩))) (i := 6) F rfl rfl (by kernel_rfl) (fun _ _ _ h => h) ⟨_, H⟩ (fun wz ⟨c9, H⟩ => (ex_faddr rfl (F.e rfl) (fa_27_4 _ _ _))) ?_; clear F A; intro A F
    obtain ⟨W9, hr, hB, hk⟩ := gx_set (P := Tryz.prog) (T := 22) (i := 4) (v := (.int .u16 ((p.id : Int)))) (c' := (Pk.cells ({ (zk p.kind) with id := p.id }) ((⟨none, 0, none, 0, none, 0, none, 0⟩ : Sl)))) _ (H.b.at_ (j := 0) rfl).1 (gs1_22 _) rfl (by simp [Pk.cells, zeroPk]) rfl
    replace H : Hp _ _ [_, _, _] := Hp.turn [] H hk hB; clear hk hB; refine gxh_st (i := 7) rfl (by kernel_rfl) (gx_w rfl) rfl (ex_store rfl (F.e rfl) (F.e rfl) hr) ⟨_, H⟩ ?_; clear hr
    refine hzh_do (v := (.pointer (some ⟨b5, 19, none⟩))) (i := 8) F rfl rfl (by kernel_rfl) (fun _ _ _ h => h) ⟨_, H⟩ (fun wz ⟨c9, H⟩ => (ex_faddr rfl (F.e rfl) (fa_27_19 _ _ _))) ?_; clear F A; intro A F
    obtain ⟨W9, hr, hB, hk⟩ := gx_set (P := Tryz.prog) (T := 5) (i := 19) (v := (.int .u8 ((p.code : Int)))) (c' := (Pk.cells ({ { (zk p.kind) with id := p.id } with code := p.code }) ((⟨none, 0, none, 0, none, 0, none, 0⟩ : Sl)))) _ (H.b.at_ (j := 0) rfl).1 (gs1_5 _) rfl (by simp [Pk.cells, zeroPk]) rfl
    replace H : Hp _ _ [_, _, _] := Hp.turn [] H hk hB; clear hk hB; refine gxh_st (i := 9) rfl (by kernel_rfl) (gx_w rfl) rfl (ex_store rfl (F.e rfl) (F.e rfl) hr) ⟨_, H⟩ ?_; clear hr
    refine hzh_do (v := (.pointer (some ⟨b5, 24, none⟩))) (i := 10) F rfl rfl (by kernel_rfl) (fun _ _ _ h => h) ⟨_, H⟩ (fun wz ⟨c9, H⟩ => (ex_faddr rfl (F.e rfl) (fa_27_24 _ _ _))) ?_; clear F A; intro A F
    obtain ⟨W9, hr, hB, hk⟩ := gx_set (P := Tryz.prog) (T := 23) (i := 24) (v := (.slice s.pa p.props.length s.pc)) (c' := (Pk.cells ({ { { (zk p.kind) with id := p.id } with code := p.code } with props := p.props }) ({ (⟨none, 0, none, 0, none, 0, none, 0⟩ : Sl) with pa := s.pa, pc := s.pc }))) _ (H.b.at_ (j := 0) rfl).1 (gs1_23 _) rfl (by simp [Pk.cells, zeroPk]) rfl
    replace H : Hp _ _ [_, _, _] := Hp.turn [] H hk hB; clear hk hB; refine gxh_st (i := 11) rfl (by kernel_rfl) (gx_w rfl) rfl (ex_store rfl (F.e rfl) (F.e rfl) hr) ⟨_, H⟩ ?_; clear hr
    refine wpAnyH_done (by kernel_rfl) ?_ _
    refine hK6 _ _ ?_
    refine wp_seq_k (fun K51 hK51 => ?_)
    refine gx_region ?_
    refine hz_do F rfl (ex_load rfl (F.e rfl) (gl_agg ((Pk.cells ({ { { (zk p.kind) with id := p.id } with code := p.code } with props := p.props }) ({ (⟨none, 0, none, 0, none, 0, none, 0⟩ : Sl) with pa := s.pa, pc := s.pc }))) rfl (ga_27 _) (gs_27 _) (fun i => H.cs 0 rfl i))) ?_; clear F A; intro A F
    obtain ⟨W9, hr, hB, hk⟩ := gx_storeAgg (P := Tryz.prog) (S := 27) (c := (Pk.cells ({ { { (zk p.kind) with id := p.id } with code := p.code } with props := p.props }) ({ (⟨none, 0, none, 0, none, 0, none, 0⟩ : Sl) with pa := s.pa, pc := s.pc }))) _ (H.b.at_ (j := 1) rfl).1 (gs_27 _) rfl (pk_one _ _)
    refine hz_st (ex_store rfl (F.e rfl) (F.e rfl) hr) ?_; clear hr; replace H : Hp _ _ [_, _, _] := Hp.turn [_] H hk hB; clear hk hB
    refine wpList_nil ?_
    refine hK51 _ _ ?_
    refine gx_ret ?_
    refine (show bodyPost Tryz.prog Tryz.f15 (fun e w' => e = .returned (Pk.val (bareP p) (ownSl p s)) ∧ Kept No w w') Exit.ret _ _ from ?_)
    exact bodyPost_ret (fn := Tryz.f15) (gx_resc rfl (F.g 2 _ rfl) (gl_agg ((Pk.cells ({ { { (zk p.kind) with id := p.id } with code := p.code } with props := p.props }) ({ (⟨none, 0, none, 0, none, 0, none, 0⟩ : Sl) with pa := s.pa, pc := s.pc }))) rfl (ga_27 _) (gs_27 _) (fun i => H.cs 1 rfl i))) F.d (⟨by unfold Pk.val; exact congrArg (fun x => Ending.returned (.agg x)) (congr (congrArg Pk.cells (by (try simp only [← Bool.not_eq_true, Bool.or_eq_true, Bool.and_eq_true, decide_eq_true_eq] at hb9 hb37 hb40 hb44 hb47 hb50); unfold bareP; simp only [hb9, hb37, hb40, hb44, hb47, hb50, ↓reduceIte, or_true, true_or, or_self, Int.reduceEq, or_false, false_or] <;> (first | done | rfl))) (by (try simp only [← Bool.not_eq_true, Bool.or_eq_true, Bool.and_eq_true, decide_eq_true_eq] at hb9 hb37 hb40 hb44 hb47 hb50); unfold ownSl; simp only [hb9, hb37, hb40, hb44, hb47, hb50, ↓reduceIte, or_true, true_or, or_self, Int.reduceEq, or_false, false_or] <;> (first | done | rfl))), H.k⟩)
  refine gx_region ?_
  refine hz_do F rfl (ex_bin rfl (F.e rfl) gx_evc (rn_eql)) ?_; clear F A; intro A F
  refine hz_do F rfl (ex_assign rfl (F.e rfl)) ?_; clear F A; intro A F
  refine wpList_nil ?_
  refine hK42 _ _ ?_
  refine hz_cond (F.e rfl) (fun hb52 => ?_) (fun hb52 => ?_)
  · skip
    refine wp_region_held_drew (S := fun wx => ∃ c9, Hp _ wx [⟨b5, 27, c9⟩, _, _]) (by kernel_rfl) ⟨_, H.drew⟩ (fun H9 => ?_); clear H9; replace H := H.drew
    generalize World.drew _ = W at *
    refine hzh_do (v := (.pointer (some ⟨b2, 4, none⟩))) (i := 0) F rfl rfl (by kernel_rfl) (fun _ _ _ h => h) ⟨_, H⟩ (fun wz ⟨c9, H⟩ => (ex_faddr rfl (F.e rfl) (fa_27_4 _ _ _))) ?_; clear F A; intro A F
    refine hzh_do (v := (.int .u16 ((p.id : Int)))) (i := 1) F rfl rfl (by kernel_rfl) (fun _ _ _ h => h) ⟨_, H⟩ (fun wz ⟨c9, H⟩ => (ex_load rfl (F.e rfl) (gl_one (ag_22 _) (H.c 2 rfl rfl)))) ?_; clear F A; intro A F
    refine hzh_do (v := (.pointer (some ⟨b2, 19, none⟩))) (i := 2) F rfl rfl (by kernel_rfl) (fun _ _ _ h => h) ⟨_, H⟩ (fun wz ⟨c9, H⟩ => (ex_faddr rfl (F.e rfl) (fa_27_19 _ _ _))) ?_; clear F A; intro A F
    refine hzh_do (v := (.int .u8 ((p.code : Int)))) (i := 3) F rfl rfl (by kernel_rfl) (fun _ _ _ h => h) ⟨_, H⟩ (fun wz ⟨c9, H⟩ => (ex_load rfl (F.e rfl) (gl_one (ag_5 _) (H.c 2 rfl rfl)))) ?_; clear F A; intro A F
    refine hzh_do (v := (.pointer (some ⟨b2, 24, none⟩))) (i := 4) F rfl rfl (by kernel_rfl) (fun _ _ _ h => h) ⟨_, H⟩ (fun wz ⟨c9, H⟩ => (ex_faddr rfl (F.e rfl) (fa_27_24 _ _ _))) ?_; clear F A; intro A F
    refine hzh_do (v := (.slice s.pa p.props.length s.pc)) (i := 5) F rfl rfl (by kernel_rfl) (fun _ _ _ h => h) ⟨_, H⟩ (fun wz ⟨c9, H⟩ => (ex_load rfl (F.e rfl) (gl_one (ag_23 _) (H.c 2 rfl rfl)))) ?_; clear F A; intro A F
    refine hzh_do (v := (.pointer (some ⟨b5, 4, none⟩))) (i := 6) F rfl rfl (by kernel_rfl) (fun _ _ _ h => h) ⟨_, H⟩ (fun wz ⟨c9, H⟩ => (ex_faddr rfl (F.e rfl) (fa_27_4 _ _ _))) ?_; clear F A; intro A F
    obtain ⟨W9, hr, hB, hk⟩ := gx_set (P := Tryz.prog) (T := 22) (i := 4) (v := (.int .u16 ((p.id : Int)))) (c' := (Pk.cells ({ (zk p.kind) with id := p.id }) ((⟨none, 0, none, 0, none, 0, none, 0⟩ : Sl)))) _ (H.b.at_ (j := 0) rfl).1 (gs1_22 _) rfl (by simp [Pk.cells, zeroPk]) rfl
    replace H : Hp _ _ [_, _, _] := Hp.turn [] H hk hB; clear hk hB; refine gxh_st (i := 7) rfl (by kernel_rfl) (gx_w rfl) rfl (ex_store rfl (F.e rfl) (F.e rfl) hr) ⟨_, H⟩ ?_; clear hr
    refine hzh_do (v := (.pointer (some ⟨b5, 19, none⟩))) (i := 8) F rfl rfl (by kernel_rfl) (fun _ _ _ h => h) ⟨_, H⟩ (fun wz ⟨c9, H⟩ => (ex_faddr rfl (F.e rfl) (fa_27_19 _ _ _))) ?_; clear F A; intro A F
    obtain ⟨W9, hr, hB, hk⟩ := gx_set (P := Tryz.prog) (T := 5) (i := 19) (v := (.int .u8 ((p.code : Int)))) (c' := (Pk.cells ({ { (zk p.kind) with id := p.id } with code := p.code }) ((⟨none, 0, none, 0, none, 0, none, 0⟩ : Sl)))) _ (H.b.at_ (j := 0) rfl).1 (gs1_5 _) rfl (by simp [Pk.cells, zeroPk]) rfl
    replace H : Hp _ _ [_, _, _] := Hp.turn [] H hk hB; clear hk hB; refine gxh_st (i := 9) rfl (by kernel_rfl) (gx_w rfl) rfl (ex_store rfl (F.e rfl) (F.e rfl) hr) ⟨_, H⟩ ?_; clear hr
    refine hzh_do (v := (.pointer (some ⟨b5, 24, none⟩))) (i := 10) F rfl rfl (by kernel_rfl) (fun _ _ _ h => h) ⟨_, H⟩ (fun wz ⟨c9, H⟩ => (ex_faddr rfl (F.e rfl) (fa_27_24 _ _ _))) ?_; clear F A; intro A F
    obtain ⟨W9, hr, hB, hk⟩ := gx_set (P := Tryz.prog) (T := 23) (i := 24) (v := (.slice s.pa p.props.length s.pc)) (c' := (Pk.cells ({ { { (zk p.kind) with id := p.id } with code := p.code } with props := p.props }) ({ (⟨none, 0, none, 0, none, 0, none, 0⟩ : Sl) with pa := s.pa, pc := s.pc }))) _ (H.b.at_ (j := 0) rfl).1 (gs1_23 _) rfl (by simp [Pk.cells, zeroPk]) rfl
    replace H : Hp _ _ [_, _, _] := Hp.turn [] H hk hB; clear hk hB; refine gxh_st (i := 11) rfl (by kernel_rfl) (gx_w rfl) rfl (ex_store rfl (F.e rfl) (F.e rfl) hr) ⟨_, H⟩ ?_; clear hr
    refine wpAnyH_done (by kernel_rfl) ?_ _
    refine hK6 _ _ ?_
    refine wp_seq_k (fun K53 hK53 => ?_)
    refine gx_region ?_
    refine hz_do F rfl (ex_load rfl (F.e rfl) (gl_agg ((Pk.cells ({ { { (zk p.kind) with id := p.id } with code := p.code } with props := p.props }) ({ (⟨none, 0, none, 0, none, 0, none, 0⟩ : Sl) with pa := s.pa, pc := s.pc }))) rfl (ga_27 _) (gs_27 _) (fun i => H.cs 0 rfl i))) ?_; clear F A; intro A F
    obtain ⟨W9, hr, hB, hk⟩ := gx_storeAgg (P := Tryz.prog) (S := 27) (c := (Pk.cells ({ { { (zk p.kind) with id := p.id } with code := p.code } with props := p.props }) ({ (⟨none, 0, none, 0, none, 0, none, 0⟩ : Sl) with pa := s.pa, pc := s.pc }))) _ (H.b.at_ (j := 1) rfl).1 (gs_27 _) rfl (pk_one _ _)
    refine hz_st (ex_store rfl (F.e rfl) (F.e rfl) hr) ?_; clear hr; replace H : Hp _ _ [_, _, _] := Hp.turn [_] H hk hB; clear hk hB
    refine wpList_nil ?_
    refine hK53 _ _ ?_
    refine gx_ret ?_
    refine (show bodyPost Tryz.prog Tryz.f15 (fun e w' => e = .returned (Pk.val (bareP p) (ownSl p s)) ∧ Kept No w w') Exit.ret _ _ from ?_)
    exact bodyPost_ret (fn := Tryz.f15) (gx_resc rfl (F.g 2 _ rfl) (gl_agg ((Pk.cells ({ { { (zk p.kind) with id := p.id } with code := p.code } with props := p.props }) ({ (⟨none, 0, none, 0, none, 0, none, 0⟩ : Sl) with pa := s.pa, pc := s.pc }))) rfl (ga_27 _) (gs_27 _) (fun i => H.cs 1 rfl i))) F.d (⟨by unfold Pk.val; exact congrArg (fun x => Ending.returned (.agg x)) (congr (congrArg Pk.cells (by (try simp only [← Bool.not_eq_true, Bool.or_eq_true, Bool.and_eq_true, decide_eq_true_eq] at hb9 hb37 hb40 hb44 hb47 hb50 hb52); unfold bareP; simp only [hb9, hb37, hb40, hb44, hb47, hb50, hb52, ↓reduceIte, or_true, true_or, or_self, Int.reduceEq, or_false, false_or] <;> (first | done | rfl))) (by (try simp only [← Bool.not_eq_true, Bool.or_eq_true, Bool.and_eq_true, decide_eq_true_eq] at hb9 hb37 hb40 hb44 hb47 hb50 hb52); unfold ownSl; simp only [hb9, hb37, hb40, hb44, hb47, hb50, hb52, ↓reduceIte, or_true, true_or, or_self, Int.reduceEq, or_false, false_or] <;> (first | done | rfl))), H.k⟩)
  refine wp_seq_k (fun K54 hK54 => ?_)
  refine wp_seq_k (fun K55 hK55 => ?_)
  refine gx_region ?_
  refine hz_do F rfl (ex_bin rfl (F.e rfl) gx_evc (rn_eql)) ?_; clear F A; intro A F
  refine hz_do F rfl (ex_assign rfl (F.e rfl)) ?_; clear F A; intro A F
  refine wpList_nil ?_
  refine hK55 _ _ ?_
  refine hz_cond (F.e rfl) (fun hb56 => ?_) (fun hb56 => ?_)
  · skip
    refine wp_skip ?_
    refine hK54 _ _ ?_
    refine wp_cond_true ((F.e rfl).trans (congrArg Value.bool hb56)) ?_
    refine wp_region_held_drew (S := fun wx => ∃ c9, Hp _ wx [⟨b5, 27, c9⟩, _, _]) (by kernel_rfl) ⟨_, H.drew⟩ (fun H9 => ?_); clear H9; replace H := H.drew
    generalize World.drew _ = W at *
    refine hzh_do (v := (.pointer (some ⟨b2, 4, none⟩))) (i := 0) F rfl rfl (by kernel_rfl) (fun _ _ _ h => h) ⟨_, H⟩ (fun wz ⟨c9, H⟩ => (ex_faddr rfl (F.e rfl) (fa_27_4 _ _ _))) ?_; clear F A; intro A F
    refine hzh_do (v := (.int .u16 ((p.id : Int)))) (i := 1) F rfl rfl (by kernel_rfl) (fun _ _ _ h => h) ⟨_, H⟩ (fun wz ⟨c9, H⟩ => (ex_load rfl (F.e rfl) (gl_one (ag_22 _) (H.c 2 rfl rfl)))) ?_; clear F A; intro A F
    refine hzh_do (v := (.pointer (some ⟨b2, 24, none⟩))) (i := 2) F rfl rfl (by kernel_rfl) (fun _ _ _ h => h) ⟨_, H⟩ (fun wz ⟨c9, H⟩ => (ex_faddr rfl (F.e rfl) (fa_27_24 _ _ _))) ?_; clear F A; intro A F
    refine hzh_do (v := (.slice s.pa p.props.length s.pc)) (i := 3) F rfl rfl (by kernel_rfl) (fun _ _ _ h => h) ⟨_, H⟩ (fun wz ⟨c9, H⟩ => (ex_load rfl (F.e rfl) (gl_one (ag_23 _) (H.c 2 rfl rfl)))) ?_; clear F A; intro A F
    refine hzh_do (v := (.pointer (some ⟨b2, 22, none⟩))) (i := 4) F rfl rfl (by kernel_rfl) (fun _ _ _ h => h) ⟨_, H⟩ (fun wz ⟨c9, H⟩ => (ex_faddr rfl (F.e rfl) (fa_27_22 _ _ _))) ?_; clear F A; intro A F
    refine hzh_do (v := (.slice s.fa p.filters.length s.fc)) (i := 5) F rfl rfl (by kernel_rfl) (fun _ _ _ h => h) ⟨_, H⟩ (fun wz ⟨c9, H⟩ => (ex_load rfl (F.e rfl) (gl_one (ag_24 _) (H.c 2 rfl rfl)))) ?_; clear F A; intro A F
    refine hzh_do (v := (.pointer (some ⟨b5, 4, none⟩))) (i := 6) F rfl rfl (by kernel_rfl) (fun _ _ _ h => h) ⟨_, H⟩ (fun wz ⟨c9, H⟩ => (ex_faddr rfl (F.e rfl) (fa_27_4 _ _ _))) ?_; clear F A; intro A F
    obtain ⟨W9, hr, hB, hk⟩ := gx_set (P := Tryz.prog) (T := 22) (i := 4) (v := (.int .u16 ((p.id : Int)))) (c' := (Pk.cells ({ (zk p.kind) with id := p.id }) ((⟨none, 0, none, 0, none, 0, none, 0⟩ : Sl)))) _ (H.b.at_ (j := 0) rfl).1 (gs1_22 _) rfl (by simp [Pk.cells, zeroPk]) rfl
    replace H : Hp _ _ [_, _, _] := Hp.turn [] H hk hB; clear hk hB; refine gxh_st (i := 7) rfl (by kernel_rfl) (gx_w rfl) rfl (ex_store rfl (F.e rfl) (F.e rfl) hr) ⟨_, H⟩ ?_; clear hr
    refine hzh_do (v := (.pointer (some ⟨b5, 24, none⟩))) (i := 8) F rfl rfl (by kernel_rfl) (fun _ _ _ h => h) ⟨_, H⟩ (fun wz ⟨c9, H⟩ => (ex_faddr rfl (F.e rfl) (fa_27_24 _ _ _))) ?_; clear F A; intro A F
    obtain ⟨W9, hr, hB, hk⟩ := gx_set (P := Tryz.prog) (T := 23) (i := 24) (v := (.slice s.pa p.props.length s.pc)) (c' := (Pk.cells ({ { (zk p.kind) with id := p.id } with props := p.props }) ({ (⟨none, 0, none, 0, none, 0, none, 0⟩ : Sl) with pa := s.pa, pc := s.pc }))) _ (H.b.at_ (j := 0) rfl).1 (gs1_23 _) rfl (by simp [Pk.cells, zeroPk]) rfl
    replace H : Hp _ _ [_, _, _] := Hp.turn [] H hk hB; clear hk hB; refine gxh_st (i := 9) rfl (by kernel_rfl) (gx_w rfl) rfl (ex_store rfl (F.e rfl) (F.e rfl) hr) ⟨_, H⟩ ?_; clear hr
    refine hzh_do (v := (.pointer (some ⟨b5, 22, none⟩))) (i := 10) F rfl rfl (by kernel_rfl) (fun _ _ _ h => h) ⟨_, H⟩ (fun wz ⟨c9, H⟩ => (ex_faddr rfl (F.e rfl) (fa_27_22 _ _ _))) ?_; clear F A; intro A F
    obtain ⟨W9, hr, hB, hk⟩ := gx_set (P := Tryz.prog) (T := 24) (i := 22) (v := (.slice s.fa p.filters.length s.fc)) (c' := (Pk.cells ({ { { (zk p.kind) with id := p.id } with props := p.props } with filters := p.filters }) ({ { (⟨none, 0, none, 0, none, 0, none, 0⟩ : Sl) with pa := s.pa, pc := s.pc } with fa := s.fa, fc := s.fc }))) _ (H.b.at_ (j := 0) rfl).1 (gs1_24 _) rfl (by simp [Pk.cells, zeroPk]) rfl
    replace H : Hp _ _ [_, _, _] := Hp.turn [] H hk hB; clear hk hB; refine gxh_st (i := 11) rfl (by kernel_rfl) (gx_w rfl) rfl (ex_store rfl (F.e rfl) (F.e rfl) hr) ⟨_, H⟩ ?_; clear hr
    refine wpAnyH_done (by kernel_rfl) ?_ _
    refine hK6 _ _ ?_
    refine wp_seq_k (fun K57 hK57 => ?_)
    refine gx_region ?_
    refine hz_do F rfl (ex_load rfl (F.e rfl) (gl_agg ((Pk.cells ({ { { (zk p.kind) with id := p.id } with props := p.props } with filters := p.filters }) ({ { (⟨none, 0, none, 0, none, 0, none, 0⟩ : Sl) with pa := s.pa, pc := s.pc } with fa := s.fa, fc := s.fc }))) rfl (ga_27 _) (gs_27 _) (fun i => H.cs 0 rfl i))) ?_; clear F A; intro A F
    obtain ⟨W9, hr, hB, hk⟩ := gx_storeAgg (P := Tryz.prog) (S := 27) (c := (Pk.cells ({ { { (zk p.kind) with id := p.id } with props := p.props } with filters := p.filters }) ({ { (⟨none, 0, none, 0, none, 0, none, 0⟩ : Sl) with pa := s.pa, pc := s.pc } with fa := s.fa, fc := s.fc }))) _ (H.b.at_ (j := 1) rfl).1 (gs_27 _) rfl (pk_one _ _)
    refine hz_st (ex_store rfl (F.e rfl) (F.e rfl) hr) ?_; clear hr; replace H : Hp _ _ [_, _, _] := Hp.turn [_] H hk hB; clear hk hB
    refine wpList_nil ?_
    refine hK57 _ _ ?_
    refine gx_ret ?_
    refine (show bodyPost Tryz.prog Tryz.f15 (fun e w' => e = .returned (Pk.val (bareP p) (ownSl p s)) ∧ Kept No w w') Exit.ret _ _ from ?_)
    exact bodyPost_ret (fn := Tryz.f15) (gx_resc rfl (F.g 2 _ rfl) (gl_agg ((Pk.cells ({ { { (zk p.kind) with id := p.id } with props := p.props } with filters := p.filters }) ({ { (⟨none, 0, none, 0, none, 0, none, 0⟩ : Sl) with pa := s.pa, pc := s.pc } with fa := s.fa, fc := s.fc }))) rfl (ga_27 _) (gs_27 _) (fun i => H.cs 1 rfl i))) F.d (⟨by unfold Pk.val; exact congrArg (fun x => Ending.returned (.agg x)) (congr (congrArg Pk.cells (by (try simp only [← Bool.not_eq_true, Bool.or_eq_true, Bool.and_eq_true, decide_eq_true_eq] at hb9 hb37 hb40 hb44 hb47 hb50 hb52 hb56); unfold bareP; simp only [hb9, hb37, hb40, hb44, hb47, hb50, hb52, hb56, ↓reduceIte, or_true, true_or, or_self, Int.reduceEq, or_false, false_or] <;> (first | done | rfl))) (by (try simp only [← Bool.not_eq_true, Bool.or_eq_true, Bool.and_eq_true, decide_eq_true_eq] at hb9 hb37 hb40 hb44 hb47 hb50 hb52 hb56); unfold ownSl; simp only [hb9, hb37, hb40, hb44, hb47, hb50, hb52, hb56, ↓reduceIte, or_true, true_or, or_self, Int.reduceEq, or_false, false_or] <;> (first | done | rfl))), H.k⟩)
  refine gx_region ?_
  refine hz_do F rfl (ex_bin rfl (F.e rfl) gx_evc (rn_eql)) ?_; clear F A; intro A F
  refine hz_do F rfl (ex_assign rfl (F.e rfl)) ?_; clear F A; intro A F
  refine wpList_nil ?_
  refine hK54 _ _ ?_
  refine hz_cond (F.e rfl) (fun hb58 => ?_) (fun hb58 => ?_)
  · skip
    refine wp_region_held_drew (S := fun wx => ∃ c9, Hp _ wx [⟨b5, 27, c9⟩, _, _]) (by kernel_rfl) ⟨_, H.drew⟩ (fun H9 => ?_); clear H9; replace H := H.drew
    generalize World.drew _ = W at *
    refine hzh_do (v := (.pointer (some ⟨b2, 4, none⟩))) (i := 0) F rfl rfl (by kernel_rfl) (fun _ _ _ h => h) ⟨_, H⟩ (fun wz ⟨c9, H⟩ => (ex_faddr rfl (F.e rfl) (fa_27_4 _ _ _))) ?_; clear F A; intro A F
    refine hzh_do (v := (.int .u16 ((p.id : Int)))) (i := 1) F rfl rfl (by kernel_rfl) (fun _ _ _ h => h) ⟨_, H⟩ (fun wz ⟨c9, H⟩ => (ex_load rfl (F.e rfl) (gl_one (ag_22 _) (H.c 2 rfl rfl)))) ?_; clear F A; intro A F
    refine hzh_do (v := (.pointer (some ⟨b2, 24, none⟩))) (i := 2) F rfl rfl (by kernel_rfl) (fun _ _ _ h => h) ⟨_, H⟩ (fun wz ⟨c9, H⟩ => (ex_faddr rfl (F.e rfl) (fa_27_24 _ _ _))) ?_; clear F A; intro A F
    refine hzh_do (v := (.slice s.pa p.props.length s.pc)) (i := 3) F rfl rfl (by kernel_rfl) (fun _ _ _ h => h) ⟨_, H⟩ (fun wz ⟨c9, H⟩ => (ex_load rfl (F.e rfl) (gl_one (ag_23 _) (H.c 2 rfl rfl)))) ?_; clear F A; intro A F
    refine hzh_do (v := (.pointer (some ⟨b2, 22, none⟩))) (i := 4) F rfl rfl (by kernel_rfl) (fun _ _ _ h => h) ⟨_, H⟩ (fun wz ⟨c9, H⟩ => (ex_faddr rfl (F.e rfl) (fa_27_22 _ _ _))) ?_; clear F A; intro A F
    refine hzh_do (v := (.slice s.fa p.filters.length s.fc)) (i := 5) F rfl rfl (by kernel_rfl) (fun _ _ _ h => h) ⟨_, H⟩ (fun wz ⟨c9, H⟩ => (ex_load rfl (F.e rfl) (gl_one (ag_24 _) (H.c 2 rfl rfl)))) ?_; clear F A; intro A F
    refine hzh_do (v := (.pointer (some ⟨b5, 4, none⟩))) (i := 6) F rfl rfl (by kernel_rfl) (fun _ _ _ h => h) ⟨_, H⟩ (fun wz ⟨c9, H⟩ => (ex_faddr rfl (F.e rfl) (fa_27_4 _ _ _))) ?_; clear F A; intro A F
    obtain ⟨W9, hr, hB, hk⟩ := gx_set (P := Tryz.prog) (T := 22) (i := 4) (v := (.int .u16 ((p.id : Int)))) (c' := (Pk.cells ({ (zk p.kind) with id := p.id }) ((⟨none, 0, none, 0, none, 0, none, 0⟩ : Sl)))) _ (H.b.at_ (j := 0) rfl).1 (gs1_22 _) rfl (by simp [Pk.cells, zeroPk]) rfl
    replace H : Hp _ _ [_, _, _] := Hp.turn [] H hk hB; clear hk hB; refine gxh_st (i := 7) rfl (by kernel_rfl) (gx_w rfl) rfl (ex_store rfl (F.e rfl) (F.e rfl) hr) ⟨_, H⟩ ?_; clear hr
    refine hzh_do (v := (.pointer (some ⟨b5, 24, none⟩))) (i := 8) F rfl rfl (by kernel_rfl) (fun _ _ _ h => h) ⟨_, H⟩ (fun wz ⟨c9, H⟩ => (ex_faddr rfl (F.e rfl) (fa_27_24 _ _ _))) ?_; clear F A; intro A F
    obtain ⟨W9, hr, hB, hk⟩ := gx_set (P := Tryz.prog) (T := 23) (i := 24) (v := (.slice s.pa p.props.length s.pc)) (c' := (Pk.cells ({ { (zk p.kind) with id := p.id } with props := p.props }) ({ (⟨none, 0, none, 0, none, 0, none, 0⟩ : Sl) with pa := s.pa, pc := s.pc }))) _ (H.b.at_ (j := 0) rfl).1 (gs1_23 _) rfl (by simp [Pk.cells, zeroPk]) rfl
    replace H : Hp _ _ [_, _, _] := Hp.turn [] H hk hB; clear hk hB; refine gxh_st (i := 9) rfl (by kernel_rfl) (gx_w rfl) rfl (ex_store rfl (F.e rfl) (F.e rfl) hr) ⟨_, H⟩ ?_; clear hr
    refine hzh_do (v := (.pointer (some ⟨b5, 22, none⟩))) (i := 10) F rfl rfl (by kernel_rfl) (fun _ _ _ h => h) ⟨_, H⟩ (fun wz ⟨c9, H⟩ => (ex_faddr rfl (F.e rfl) (fa_27_22 _ _ _))) ?_; clear F A; intro A F
    obtain ⟨W9, hr, hB, hk⟩ := gx_set (P := Tryz.prog) (T := 24) (i := 22) (v := (.slice s.fa p.filters.length s.fc)) (c' := (Pk.cells ({ { { (zk p.kind) with id := p.id } with props := p.props } with filters := p.filters }) ({ { (⟨none, 0, none, 0, none, 0, none, 0⟩ : Sl) with pa := s.pa, pc := s.pc } with fa := s.fa, fc := s.fc }))) _ (H.b.at_ (j := 0) rfl).1 (gs1_24 _) rfl (by simp [Pk.cells, zeroPk]) rfl
    replace H : Hp _ _ [_, _, _] := Hp.turn [] H hk hB; clear hk hB; refine gxh_st (i := 11) rfl (by kernel_rfl) (gx_w rfl) rfl (ex_store rfl (F.e rfl) (F.e rfl) hr) ⟨_, H⟩ ?_; clear hr
    refine wpAnyH_done (by kernel_rfl) ?_ _
    refine hK6 _ _ ?_
    refine wp_seq_k (fun K59 hK59 => ?_)
    refine gx_region ?_
    refine hz_do F rfl (ex_load rfl (F.e rfl) (gl_agg ((Pk.cells ({ { { (zk p.kind) with id := p.id } with props := p.props } with filters := p.filters }) ({ { (⟨none, 0, none, 0, none, 0, none, 0⟩ : Sl) with pa := s.pa, pc := s.pc } with fa := s.fa, fc := s.fc }))) rfl (ga_27 _) (gs_27 _) (fun i => H.cs 0 rfl i))) ?_; clear F A; intro A F
    obtain ⟨W9, hr, hB, hk⟩ := gx_storeAgg (P := Tryz.prog) (S := 27) (c := (Pk.cells ({ { { (zk p.kind) with id := p.id } with props := p.props } with filters := p.filters }) ({ { (⟨none, 0, none, 0, none, 0, none, 0⟩ : Sl) with pa := s.pa, pc := s.pc } with fa := s.fa, fc := s.fc }))) _ (H.b.at_ (j := 1) rfl).1 (gs_27 _) rfl (pk_one _ _)
    refine hz_st (ex_store rfl (F.e rfl) (F.e rfl) hr) ?_; clear hr; replace H : Hp _ _ [_, _, _] := Hp.turn [_] H hk hB; clear hk hB
    refine wpList_nil ?_
    refine hK59 _ _ ?_
    refine gx_ret ?_
    refine (show bodyPost Tryz.prog Tryz.f15 (fun e w' => e = .returned (Pk.val (bareP p) (ownSl p s)) ∧ Kept No w w') Exit.ret _ _ from ?_)
    exact bodyPost_ret (fn := Tryz.f15) (gx_resc rfl (F.g 2 _ rfl) (gl_agg ((Pk.cells ({ { { (zk p.kind) with id := p.id } with props := p.props } with filters := p.filters }) ({ { (⟨none, 0, none, 0, none, 0, none, 0⟩ : Sl) with pa := s.pa, pc := s.pc } with fa := s.fa, fc := s.fc }))) rfl (ga_27 _) (gs_27 _) (fun i => H.cs 1 rfl i))) F.d (⟨by unfold Pk.val; exact congrArg (fun x => Ending.returned (.agg x)) (congr (congrArg Pk.cells (by (try simp only [← Bool.not_eq_true, Bool.or_eq_true, Bool.and_eq_true, decide_eq_true_eq] at hb9 hb37 hb40 hb44 hb47 hb50 hb52 hb56 hb58); unfold bareP; simp only [hb9, hb37, hb40, hb44, hb47, hb50, hb52, hb56, hb58, ↓reduceIte, or_true, true_or, or_self, Int.reduceEq, or_false, false_or] <;> (first | done | rfl))) (by (try simp only [← Bool.not_eq_true, Bool.or_eq_true, Bool.and_eq_true, decide_eq_true_eq] at hb9 hb37 hb40 hb44 hb47 hb50 hb52 hb56 hb58); unfold ownSl; simp only [hb9, hb37, hb40, hb44, hb47, hb50, hb52, hb56, hb58, ↓reduceIte, or_true, true_or, or_self, Int.reduceEq, or_false, false_or] <;> (first | done | rfl))), H.k⟩)
  refine wp_seq_k (fun K60 hK60 => ?_)
  refine wp_seq_k (fun K61 hK61 => ?_)
  refine gx_region ?_
  refine hz_do F rfl (ex_bin rfl (F.e rfl) gx_evc (rn_eql)) ?_; clear F A; intro A F
  refine hz_do F rfl (ex_assign rfl (F.e rfl)) ?_; clear F A; intro A F
  refine wpList_nil ?_
  refine hK61 _ _ ?_
  refine hz_cond (F.e rfl) (fun hb62 => ?_) (fun hb62 => ?_)
  · skip
    refine wp_skip ?_
    refine hK60 _ _ ?_
    refine wp_cond_true ((F.e rfl).trans (congrArg Value.bool hb62)) ?_
    refine wp_region_held_drew (S := fun wx => ∃ c9, Hp _ wx [⟨b5, 27, c9⟩, _, _]) (by kernel_rfl) ⟨_, H.drew⟩ (fun H9 => ?_); clear H9; replace H := H.drew
    generalize World.drew _ = W at *
    refine hzh_do (v := (.pointer (some ⟨b2, 4, none⟩))) (i := 0) F rfl rfl (by kernel_rfl) (fun _ _ _ h => h) ⟨_, H⟩ (fun wz ⟨c9, H⟩ => (ex_faddr rfl (F.e rfl) (fa_27_4 _ _ _))) ?_; clear F A; intro A F
    refine hzh_do (v := (.int .u16 ((p.id : Int)))) (i := 1) F rfl rfl (by kernel_rfl) (fun _ _ _ h => h) ⟨_, H⟩ (fun wz ⟨c9, H⟩ => (ex_load rfl (F.e rfl) (gl_one (ag_22 _) (H.c 2 rfl rfl)))) ?_; clear F A; intro A F
    refine hzh_do (v := (.pointer (some ⟨b2, 24, none⟩))) (i := 2) F rfl rfl (by kernel_rfl) (fun _ _ _ h => h) ⟨_, H⟩ (fun wz ⟨c9, H⟩ => (ex_faddr rfl (F.e rfl) (fa_27_24 _ _ _))) ?_; clear F A; intro A F
    refine hzh_do (v := (.slice s.pa p.props.length s.pc)) (i := 3) F rfl rfl (by kernel_rfl) (fun _ _ _ h => h) ⟨_, H⟩ (fun wz ⟨c9, H⟩ => (ex_load rfl (F.e rfl) (gl_one (ag_23 _) (H.c 2 rfl rfl)))) ?_; clear F A; intro A F
    refine hzh_do (v := (.pointer (some ⟨b2, 23, none⟩))) (i := 4) F rfl rfl (by kernel_rfl) (fun _ _ _ h => h) ⟨_, H⟩ (fun wz ⟨c9, H⟩ => (ex_faddr rfl (F.e rfl) (fa_27_23 _ _ _))) ?_; clear F A; intro A F
    refine hzh_do (v := (.slice s.ca p.codes.length s.cc)) (i := 5) F rfl rfl (by kernel_rfl) (fun _ _ _ h => h) ⟨_, H⟩ (fun wz ⟨c9, H⟩ => (ex_load rfl (F.e rfl) (gl_one (ag_25 _) (H.c 2 rfl rfl)))) ?_; clear F A; intro A F
    refine hzh_do (v := (.pointer (some ⟨b5, 4, none⟩))) (i := 6) F rfl rfl (by kernel_rfl) (fun _ _ _ h => h) ⟨_, H⟩ (fun wz ⟨c9, H⟩ => (ex_faddr rfl (F.e rfl) (fa_27_4 _ _ _))) ?_; clear F A; intro A F
    obtain ⟨W9, hr, hB, hk⟩ := gx_set (P := Tryz.prog) (T := 22) (i := 4) (v := (.int .u16 ((p.id : Int)))) (c' := (Pk.cells ({ (zk p.kind) with id := p.id }) ((⟨none, 0, none, 0, none, 0, none, 0⟩ : Sl)))) _ (H.b.at_ (j := 0) rfl).1 (gs1_22 _) rfl (by simp [Pk.cells, zeroPk]) rfl
    replace H : Hp _ _ [_, _, _] := Hp.turn [] H hk hB; clear hk hB; refine gxh_st (i := 7) rfl (by kernel_rfl) (gx_w rfl) rfl (ex_store rfl (F.e rfl) (F.e rfl) hr) ⟨_, H⟩ ?_; clear hr
    refine hzh_do (v := (.pointer (some ⟨b5, 24, none⟩))) (i := 8) F rfl rfl (by kernel_rfl) (fun _ _ _ h => h) ⟨_, H⟩ (fun wz ⟨c9, H⟩ => (ex_faddr rfl (F.e rfl) (fa_27_24 _ _ _))) ?_; clear F A; intro A F
    obtain ⟨W9, hr, hB, hk⟩ := gx_set (P := Tryz.prog) (T := 23) (i := 24) (v := (.slice s.pa p.props.length s.pc)) (c' := (Pk.cells ({ { (zk p.kind) with id := p.id } with props := p.props }) ({ (⟨none, 0, none, 0, none, 0, none, 0⟩ : Sl) with pa := s.pa, pc := s.pc }))) _ (H.b.at_ (j := 0) rfl).1 (gs1_23 _) rfl (by simp [Pk.cells, zeroPk]) rfl
    replace H : Hp _ _ [_, _, _] := Hp.turn [] H hk hB; clear hk hB; refine gxh_st (i := 9) rfl (by kernel_rfl) (gx_w rfl) rfl (ex_store rfl (F.e rfl) (F.e rfl) hr) ⟨_, H⟩ ?_; clear hr
    refine hzh_do (v := (.pointer (some ⟨b5, 23, none⟩))) (i := 10) F rfl rfl (by kernel_rfl) (fun _ _ _ h => h) ⟨_, H⟩ (fun wz ⟨c9, H⟩ => (ex_faddr rfl (F.e rfl) (fa_27_23 _ _ _))) ?_; clear F A; intro A F
    obtain ⟨W9, hr, hB, hk⟩ := gx_set (P := Tryz.prog) (T := 25) (i := 23) (v := (.slice s.ca p.codes.length s.cc)) (c' := (Pk.cells ({ { { (zk p.kind) with id := p.id } with props := p.props } with codes := p.codes }) ({ { (⟨none, 0, none, 0, none, 0, none, 0⟩ : Sl) with pa := s.pa, pc := s.pc } with ca := s.ca, cc := s.cc }))) _ (H.b.at_ (j := 0) rfl).1 (gs1_25 _) rfl (by simp [Pk.cells, zeroPk]) rfl
    replace H : Hp _ _ [_, _, _] := Hp.turn [] H hk hB; clear hk hB; refine gxh_st (i := 11) rfl (by kernel_rfl) (gx_w rfl) rfl (ex_store rfl (F.e rfl) (F.e rfl) hr) ⟨_, H⟩ ?_; clear hr
    refine wpAnyH_done (by kernel_rfl) ?_ _
    refine hK6 _ _ ?_
    refine wp_seq_k (fun K63 hK63 => ?_)
    refine gx_region ?_
    refine hz_do F rfl (ex_load rfl (F.e rfl) (gl_agg ((Pk.cells ({ { { (zk p.kind) with id := p.id } with props := p.props } with codes := p.codes }) ({ { (⟨none, 0, none, 0, none, 0, none, 0⟩ : Sl) with pa := s.pa, pc := s.pc } with ca := s.ca, cc := s.cc }))) rfl (ga_27 _) (gs_27 _) (fun i => H.cs 0 rfl i))) ?_; clear F A; intro A F
    obtain ⟨W9, hr, hB, hk⟩ := gx_storeAgg (P := Tryz.prog) (S := 27) (c := (Pk.cells ({ { { (zk p.kind) with id := p.id } with props := p.props } with codes := p.codes }) ({ { (⟨none, 0, none, 0, none, 0, none, 0⟩ : Sl) with pa := s.pa, pc := s.pc } with ca := s.ca, cc := s.cc }))) _ (H.b.at_ (j := 1) rfl).1 (gs_27 _) rfl (pk_one _ _)
    refine hz_st (ex_store rfl (F.e rfl) (F.e rfl) hr) ?_; clear hr; replace H : Hp _ _ [_, _, _] := Hp.turn [_] H hk hB; clear hk hB
    refine wpList_nil ?_
    refine hK63 _ _ ?_
    refine gx_ret ?_
    refine (show bodyPost Tryz.prog Tryz.f15 (fun e w' => e = .returned (Pk.val (bareP p) (ownSl p s)) ∧ Kept No w w') Exit.ret _ _ from ?_)
    exact bodyPost_ret (fn := Tryz.f15) (gx_resc rfl (F.g 2 _ rfl) (gl_agg ((Pk.cells ({ { { (zk p.kind) with id := p.id } with props := p.props } with codes := p.codes }) ({ { (⟨none, 0, none, 0, none, 0, none, 0⟩ : Sl) with pa := s.pa, pc := s.pc } with ca := s.ca, cc := s.cc }))) rfl (ga_27 _) (gs_27 _) (fun i => H.cs 1 rfl i))) F.d (⟨by unfold Pk.val; exact congrArg (fun x => Ending.returned (.agg x)) (congr (congrArg Pk.cells (by (try simp only [← Bool.not_eq_true, Bool.or_eq_true, Bool.and_eq_true, decide_eq_true_eq] at hb9 hb37 hb40 hb44 hb47 hb50 hb52 hb56 hb58 hb62); unfold bareP; simp only [hb9, hb37, hb40, hb44, hb47, hb50, hb52, hb56, hb58, hb62, ↓reduceIte, or_true, true_or, or_self, Int.reduceEq, or_false, false_or] <;> (first | done | rfl))) (by (try simp only [← Bool.not_eq_true, Bool.or_eq_true, Bool.and_eq_true, decide_eq_true_eq] at hb9 hb37 hb40 hb44 hb47 hb50 hb52 hb56 hb58 hb62); unfold ownSl; simp only [hb9, hb37, hb40, hb44, hb47, hb50, hb52, hb56, hb58, hb62, ↓reduceIte, or_true, true_or, or_self, Int.reduceEq, or_false, false_or] <;> (first | done | rfl))), H.k⟩)
  refine gx_region ?_
  refine hz_do F rfl (ex_bin rfl (F.e rfl) gx_evc (rn_eql)) ?_; clear F A; intro A F
  refine hz_do F rfl (ex_assign rfl (F.e rfl)) ?_; clear F A; intro A F
  refine wpList_nil ?_
  refine hK60 _ _ ?_
  refine hz_cond (F.e rfl) (fun hb64 => ?_) (fun hb64 => ?_)
  · skip
    refine wp_region_held_drew (S := fun wx => ∃ c9, Hp _ wx [⟨b5, 27, c9⟩, _, _]) (by kernel_rfl) ⟨_, H.drew⟩ (fun H9 => ?_); clear H9; replace H := H.drew
    generalize World.drew _ = W at *
    refine hzh_do (v := (.pointer (some ⟨b2, 4, none⟩))) (i := 0) F rfl rfl (by kernel_rfl) (fun _ _ _ h => h) ⟨_, H⟩ (fun wz ⟨c9, H⟩ => (ex_faddr rfl (F.e rfl) (fa_27_4 _ _ _))) ?_; clear F A; intro A F
    refine hzh_do (v := (.int .u16 ((p.id : Int)))) (i := 1) F rfl rfl (by kernel_rfl) (fun _ _ _ h => h) ⟨_, H⟩ (fun wz ⟨c9, H⟩ => (ex_load rfl (F.e rfl) (gl_one (ag_22 _) (H.c 2 rfl rfl)))) ?_; clear F A; intro A F
    refine hzh_do (v := (.pointer (some ⟨b2, 24, none⟩))) (i := 2) F rfl rfl (by kernel_rfl) (fun _ _ _ h => h) ⟨_, H⟩ (fun wz ⟨c9, H⟩ => (ex_faddr rfl (F.e rfl) (fa_27_24 _ _ _))) ?_; clear F A; intro A F
    refine hzh_do (v := (.slice s.pa p.props.length s.pc)) (i := 3) F rfl rfl (by kernel_rfl) (fun _ _ _ h => h) ⟨_, H⟩ (fun wz ⟨c9, H⟩ => (ex_load rfl (F.e rfl) (gl_one (ag_23 _) (H.c 2 rfl rfl)))) ?_; clear F A; intro A F
    refine hzh_do (v := (.pointer (some ⟨b2, 23, none⟩))) (i := 4) F rfl rfl (by kernel_rfl) (fun _ _ _ h => h) ⟨_, H⟩ (fun wz ⟨c9, H⟩ => (ex_faddr rfl (F.e rfl) (fa_27_23 _ _ _))) ?_; clear F A; intro A F
    refine hzh_do (v := (.slice s.ca p.codes.length s.cc)) (i := 5) F rfl rfl (by kernel_rfl) (fun _ _ _ h => h) ⟨_, H⟩ (fun wz ⟨c9, H⟩ => (ex_load rfl (F.e rfl) (gl_one (ag_25 _) (H.c 2 rfl rfl)))) ?_; clear F A; intro A F
    refine hzh_do (v := (.pointer (some ⟨b5, 4, none⟩))) (i := 6) F rfl rfl (by kernel_rfl) (fun _ _ _ h => h) ⟨_, H⟩ (fun wz ⟨c9, H⟩ => (ex_faddr rfl (F.e rfl) (fa_27_4 _ _ _))) ?_; clear F A; intro A F
    obtain ⟨W9, hr, hB, hk⟩ := gx_set (P := Tryz.prog) (T := 22) (i := 4) (v := (.int .u16 ((p.id : Int)))) (c' := (Pk.cells ({ (zk p.kind) with id := p.id }) ((⟨none, 0, none, 0, none, 0, none, 0⟩ : Sl)))) _ (H.b.at_ (j := 0) rfl).1 (gs1_22 _) rfl (by simp [Pk.cells, zeroPk]) rfl
    replace H : Hp _ _ [_, _, _] := Hp.turn [] H hk hB; clear hk hB; refine gxh_st (i := 7) rfl (by kernel_rfl) (gx_w rfl) rfl (ex_store rfl (F.e rfl) (F.e rfl) hr) ⟨_, H⟩ ?_; clear hr
    refine hzh_do (v := (.pointer (some ⟨b5, 24, none⟩))) (i := 8) F rfl rfl (by kernel_rfl) (fun _ _ _ h => h) ⟨_, H⟩ (fun wz ⟨c9, H⟩ => (ex_faddr rfl (F.e rfl) (fa_27_24 _ _ _))) ?_; clear F A; intro A F
    obtain ⟨W9, hr, hB, hk⟩ := gx_set (P := Tryz.prog) (T := 23) (i := 24) (v := (.slice s.pa p.props.length s.pc)) (c' := (Pk.cells ({ { (zk p.kind) with id := p.id } with props := p.props }) ({ (⟨none, 0, none, 0, none, 0, none, 0⟩ : Sl) with pa := s.pa, pc := s.pc }))) _ (H.b.at_ (j := 0) rfl).1 (gs1_23 _) rfl (by simp [Pk.cells, zeroPk]) rfl
    replace H : Hp _ _ [_, _, _] := Hp.turn [] H hk hB; clear hk hB; refine gxh_st (i := 9) rfl (by kernel_rfl) (gx_w rfl) rfl (ex_store rfl (F.e rfl) (F.e rfl) hr) ⟨_, H⟩ ?_; clear hr
    refine hzh_do (v := (.pointer (some ⟨b5, 23, none⟩))) (i := 10) F rfl rfl (by kernel_rfl) (fun _ _ _ h => h) ⟨_, H⟩ (fun wz ⟨c9, H⟩ => (ex_faddr rfl (F.e rfl) (fa_27_23 _ _ _))) ?_; clear F A; intro A F
    obtain ⟨W9, hr, hB, hk⟩ := gx_set (P := Tryz.prog) (T := 25) (i := 23) (v := (.slice s.ca p.codes.length s.cc)) (c' := (Pk.cells ({ { { (zk p.kind) with id := p.id } with props := p.props } with codes := p.codes }) ({ { (⟨none, 0, none, 0, none, 0, none, 0⟩ : Sl) with pa := s.pa, pc := s.pc } with ca := s.ca, cc := s.cc }))) _ (H.b.at_ (j := 0) rfl).1 (gs1_25 _) rfl (by simp [Pk.cells, zeroPk]) rfl
    replace H : Hp _ _ [_, _, _] := Hp.turn [] H hk hB; clear hk hB; refine gxh_st (i := 11) rfl (by kernel_rfl) (gx_w rfl) rfl (ex_store rfl (F.e rfl) (F.e rfl) hr) ⟨_, H⟩ ?_; clear hr
    refine wpAnyH_done (by kernel_rfl) ?_ _
    refine hK6 _ _ ?_
    refine wp_seq_k (fun K65 hK65 => ?_)
    refine gx_region ?_
    refine hz_do F rfl (ex_load rfl (F.e rfl) (gl_agg ((Pk.cells ({ { { (zk p.kind) with id := p.id } with props := p.props } with codes := p.codes }) ({ { (⟨none, 0, none, 0, none, 0, none, 0⟩ : Sl) with pa := s.pa, pc := s.pc } with ca := s.ca, cc := s.cc }))) rfl (ga_27 _) (gs_27 _) (fun i => H.cs 0 rfl i))) ?_; clear F A; intro A F
    obtain ⟨W9, hr, hB, hk⟩ := gx_storeAgg (P := Tryz.prog) (S := 27) (c := (Pk.cells ({ { { (zk p.kind) with id := p.id } with props := p.props } with codes := p.codes }) ({ { (⟨none, 0, none, 0, none, 0, none, 0⟩ : Sl) with pa := s.pa, pc := s.pc } with ca := s.ca, cc := s.cc }))) _ (H.b.at_ (j := 1) rfl).1 (gs_27 _) rfl (pk_one _ _)
    refine hz_st (ex_store rfl (F.e rfl) (F.e rfl) hr) ?_; clear hr; replace H : Hp _ _ [_, _, _] := Hp.turn [_] H hk hB; clear hk hB
    refine wpList_nil ?_
    refine hK65 _ _ ?_
    refine gx_ret ?_
    refine (show bodyPost Tryz.prog Tryz.f15 (fun e w' => e = .returned (Pk.val (bareP p) (ownSl p s)) ∧ Kept No w w') Exit.ret _ _ from ?_)
    exact bodyPost_ret (fn := Tryz.f15) (gx_resc rfl (F.g 2 _ rfl) (gl_agg ((Pk.cells ({ { { (zk p.kind) with id := p.id } with props := p.props } with codes := p.codes }) ({ { (⟨none, 0, none, 0, none, 0, none, 0⟩ : Sl) with pa := s.pa, pc := s.pc } with ca := s.ca, cc := s.cc }))) rfl (ga_27 _) (gs_27 _) (fun i => H.cs 1 rfl i))) F.d (⟨by unfold Pk.val; exact congrArg (fun x => Ending.returned (.agg x)) (congr (congrArg Pk.cells (by (try simp only [← Bool.not_eq_true, Bool.or_eq_true, Bool.and_eq_true, decide_eq_true_eq] at hb9 hb37 hb40 hb44 hb47 hb50 hb52 hb56 hb58 hb62 hb64); unfold bareP; simp only [hb9, hb37, hb40, hb44, hb47, hb50, hb52, hb56, hb58, hb62, hb64, ↓reduceIte, or_true, true_or, or_self, Int.reduceEq, or_false, false_or] <;> (first | done | rfl))) (by (try simp only [← Bool.not_eq_true, Bool.or_eq_true, Bool.and_eq_true, decide_eq_true_eq] at hb9 hb37 hb40 hb44 hb47 hb50 hb52 hb56 hb58 hb62 hb64); unfold ownSl; simp only [hb9, hb37, hb40, hb44, hb47, hb50, hb52, hb56, hb58, hb62, hb64, ↓reduceIte, or_true, true_or, or_self, Int.reduceEq, or_false, false_or] <;> (first | done | rfl))), H.k⟩)
  refine wp_seq_k (fun K66 hK66 => ?_)
  refine wp_seq_k (fun K67 hK67 => ?_)
  refine gx_region ?_
  refine hz_do F rfl (ex_bin rfl (F.e rfl) gx_evc (rn_eql)) ?_; clear F A; intro A F
  refine hz_do F rfl (ex_assign rfl (F.e rfl)) ?_; clear F A; intro A F
  refine wpList_nil ?_
  refine hK67 _ _ ?_
  refine hz_cond (F.e rfl) (fun hb68 => ?_) (fun hb68 => ?_)
  · skip
    replace F := (((((F.nil.cons (F.g 131 _ rfl)).cons (F.g 8 _ rfl)).cons (F.g 3 _ rfl)).cons (F.g 2 _ rfl)).cons (F.g 1 _ rfl))
    refine wp_skip ?_
    refine hK66 _ _ ?_
    refine wp_cond_true ((F.e rfl).trans (congrArg Value.bool hb68)) ?_
    refine wp_region_held_drew (S := fun wx => ∃ c9, Hp _ wx [⟨b5, 27, c9⟩, _, _]) (by kernel_rfl) ⟨_, H.drew⟩ (fun H9 => ?_); clear H9; replace H := H.drew
    generalize World.drew _ = W at *
    refine hzh_do (v := (.pointer (some ⟨b2, 19, none⟩))) (i := 0) F rfl rfl (by kernel_rfl) (fun _ _ _ h => h) ⟨_, H⟩ (fun wz ⟨c9, H⟩ => (ex_faddr rfl (F.e rfl) (fa_27_19 _ _ _))) ?_; clear F A; intro A F
    refine hzh_do (v := (.int .u8 ((p.code : Int)))) (i := 1) F rfl rfl (by kernel_rfl) (fun _ _ _ h => h) ⟨_, H⟩ (fun wz ⟨c9, H⟩ => (ex_load rfl (F.e rfl) (gl_one (ag_5 _) (H.c 2 rfl rfl)))) ?_; clear F A; intro A F
    refine hzh_do (v := (.pointer (some ⟨b2, 24, none⟩))) (i := 2) F rfl rfl (by kernel_rfl) (fun _ _ _ h => h) ⟨_, H⟩ (fun wz ⟨c9, H⟩ => (ex_faddr rfl (F.e rfl) (fa_27_24 _ _ _))) ?_; clear F A; intro A F
    refine hzh_do (v := (.slice s.pa p.props.length s.pc)) (i := 3) F rfl rfl (by kernel_rfl) (fun _ _ _ h => h) ⟨_, H⟩ (fun wz ⟨c9, H⟩ => (ex_load rfl (F.e rfl) (gl_one (ag_23 _) (H.c 2 rfl rfl)))) ?_; clear F A; intro A F
    refine hzh_do (v := (.pointer (some ⟨b5, 19, none⟩))) (i := 4) F rfl rfl (by kernel_rfl) (fun _ _ _ h => h) ⟨_, H⟩ (fun wz ⟨c9, H⟩ => (ex_faddr rfl (F.e rfl) (fa_27_19 _ _ _))) ?_; clear F A; intro A F
    obtain ⟨W9, hr, hB, hk⟩ := gx_set (P := Tryz.prog) (T := 5) (i := 19) (v := (.int .u8 ((p.code : Int)))) (c' := (Pk.cells ({ (zk p.kind) with code := p.code }) ((⟨none, 0, none, 0, none, 0, none, 0⟩ : Sl)))) _ (H.b.at_ (j := 0) rfl).1 (gs1_5 _) rfl (by simp [Pk.cells, zeroPk]) rfl
    replace H : Hp _ _ [_, _, _] := Hp.turn [] H hk hB; clear hk hB; refine gxh_st (i := 5) rfl (by kernel_rfl) (gx_w rfl) rfl (ex_store rfl (F.e rfl) (F.e rfl) hr) ⟨_, H⟩ ?_; clear hr
    refine hzh_do (v := (.pointer (some ⟨b5, 24, none⟩))) (i := 6) F rfl rfl (by kernel_rfl) (fun _ _ _ h => h) ⟨_, H⟩ (fun wz ⟨c9, H⟩ => (ex_faddr rfl (F.e rfl) (fa_27_24 _ _ _))) ?_; clear F A; intro A F
    obtain ⟨W9, hr, hB, hk⟩ := gx_set (P := Tryz.prog) (T := 23) (i := 24) (v := (.slice s.pa p.props.length s.pc)) (c' := (Pk.cells ({ { (zk p.kind) with code := p.code } with props := p.props }) ({ (⟨none, 0, none, 0, none, 0, none, 0⟩ : Sl) with pa := s.pa, pc := s.pc }))) _ (H.b.at_ (j := 0) rfl).1 (gs1_23 _) rfl (by simp [Pk.cells, zeroPk]) rfl
    replace H : Hp _ _ [_, _, _] := Hp.turn [] H hk hB; clear hk hB; refine gxh_st (i := 7) rfl (by kernel_rfl) (gx_w rfl) rfl (ex_store rfl (F.e rfl) (F.e rfl) hr) ⟨_, H⟩ ?_; clear hr
    refine wpAnyH_done (by kernel_rfl) ?_ _
    refine hK6 _ _ ?_
    refine wp_seq_k (fun K69 hK69 => ?_)
    refine gx_region ?_
    refine hz_do F rfl (ex_load rfl (F.e rfl) (gl_agg ((Pk.cells ({ { (zk p.kind) with code := p.code } with props := p.props }) ({ (⟨none, 0, none, 0, none, 0, none, 0⟩ : Sl) with pa := s.pa, pc := s.pc }))) rfl (ga_27 _) (gs_27 _) (fun i => H.cs 0 rfl i))) ?_; clear F A; intro A F
    obtain ⟨W9, hr, hB, hk⟩ := gx_storeAgg (P := Tryz.prog) (S := 27) (c := (Pk.cells ({ { (zk p.kind) with code := p.code } with props := p.props }) ({ (⟨none, 0, none, 0, none, 0, none, 0⟩ : Sl) with pa := s.pa, pc := s.pc }))) _ (H.b.at_ (j := 1) rfl).1 (gs_27 _) rfl (pk_one _ _)
    refine hz_st (ex_store rfl (F.e rfl) (F.e rfl) hr) ?_; clear hr; replace H : Hp _ _ [_, _, _] := Hp.turn [_] H hk hB; clear hk hB
    refine wpList_nil ?_
    refine hK69 _ _ ?_
    refine gx_ret ?_
    refine (show bodyPost Tryz.prog Tryz.f15 (fun e w' => e = .returned (Pk.val (bareP p) (ownSl p s)) ∧ Kept No w w') Exit.ret _ _ from ?_)
    exact bodyPost_ret (fn := Tryz.f15) (gx_resc rfl (F.g 2 _ rfl) (gl_agg ((Pk.cells ({ { (zk p.kind) with code := p.code } with props := p.props }) ({ (⟨none, 0, none, 0, none, 0, none, 0⟩ : Sl) with pa := s.pa, pc := s.pc }))) rfl (ga_27 _) (gs_27 _) (fun i => H.cs 1 rfl i))) F.d (⟨by unfold Pk.val; exact congrArg (fun x => Ending.returned (.agg x)) (congr (congrArg Pk.cells (by (try simp only [← Bool.not_eq_true, Bool.or_eq_true, Bool.and_eq_true, decide_eq_true_eq] at hb9 hb37 hb40 hb44 hb47 hb50 hb52 hb56 hb58 hb62 hb64 hb68); unfold bareP; simp only [hb9, hb37, hb40, hb44, hb47, hb50, hb52, hb56, hb58, hb62, hb64, hb68, ↓reduceIte, or_true, true_or, or_self, Int.reduceEq, or_false, false_or] <;> (first | done | rfl))) (by (try simp only [← Bool.not_eq_true, Bool.or_eq_true, Bool.and_eq_true, decide_eq_true_eq] at hb9 hb37 hb40 hb44 hb47 hb50 hb52 hb56 hb58 hb62 hb64 hb68); unfold ownSl; simp only [hb9, hb37, hb40, hb44, hb47, hb50, hb52, hb56, hb58, hb62, hb64, hb68, ↓reduceIte, or_true, true_or, or_self, Int.reduceEq, or_false, false_or] <;> (first | done | rfl))), H.k⟩)
  replace F := (((((F.nil.cons (F.g 131 _ rfl)).cons (F.g 8 _ rfl)).cons (F.g 3 _ rfl)).cons (F.g 2 _ rfl)).cons (F.g 1 _ rfl))
  refine gx_region ?_
  refine hz_do F rfl (ex_bin rfl (F.e rfl) gx_evc (rn_eql)) ?_; clear F A; intro A F
  refine hz_do F rfl (ex_assign rfl (F.e rfl)) ?_; clear F A; intro A F
  refine wpList_nil ?_
  refine hK66 _ _ ?_
  refine hz_cond (F.e rfl) (fun hb70 => ?_) (fun hb70 => ?_)
  · skip
    refine wp_region_held_drew (S := fun wx => ∃ c9, Hp _ wx [⟨b5, 27, c9⟩, _, _]) (by kernel_rfl) ⟨_, H.drew⟩ (fun H9 => ?_); clear H9; replace H := H.drew
    generalize World.drew _ = W at *
    refine hzh_do (v := (.pointer (some ⟨b2, 19, none⟩))) (i := 0) F rfl rfl (by kernel_rfl) (fun _ _ _ h => h) ⟨_, H⟩ (fun wz ⟨c9, H⟩ => (ex_faddr rfl (F.e rfl) (fa_27_19 _ _ _))) ?_; clear F A; intro A F
    refine hzh_do (v := (.int .u8 ((p.code : Int)))) (i := 1) F rfl rfl (by kernel_rfl) (fun _ _ _ h => h) ⟨_, H⟩ (fun wz ⟨c9, H⟩ => (ex_load rfl (F.e rfl) (gl_one (ag_5 _) (H.c 2 rfl rfl)))) ?_; clear F A; intro A F
    refine hzh_do (v := (.pointer (some ⟨b2, 24, none⟩))) (i := 2) F rfl rfl (by kernel_rfl) (fun _ _ _ h => h) ⟨_, H⟩ (fun wz ⟨c9, H⟩ => (ex_faddr rfl (F.e rfl) (fa_27_24 _ _ _))) ?_; clear F A; intro A F
    refine hzh_do (v := (.slice s.pa p.props.length s.pc)) (i := 3) F rfl rfl (by kernel_rfl) (fun _ _ _ h => h) ⟨_, H⟩ (fun wz ⟨c9, H⟩ => (ex_load rfl (F.e rfl) (gl_one (ag_23 _) (H.c 2 rfl rfl)))) ?_; clear F A; intro A F
    refine hzh_do (v := (.pointer (some ⟨b5, 19, none⟩))) (i := 4) F rfl rfl (by kernel_rfl) (fun _ _ _ h => h) ⟨_, H⟩ (fun wz ⟨c9, H⟩ => (ex_faddr rfl (F.e rfl) (fa_27_19 _ _ _))) ?_; clear F A; intro A F
    obtain ⟨W9, hr, hB, hk⟩ := gx_set (P := Tryz.prog) (T := 5) (i := 19) (v := (.int .u8 ((p.code : Int)))) (c' := (Pk.cells ({ (zk p.kind) with code := p.code }) ((⟨none, 0, none, 0, none, 0, none, 0⟩ : Sl)))) _ (H.b.at_ (j := 0) rfl).1 (gs1_5 _) rfl (by simp [Pk.cells, zeroPk]) rfl
    replace H : Hp _ _ [_, _, _] := Hp.turn [] H hk hB; clear hk hB; refine gxh_st (i := 5) rfl (by kernel_rfl) (gx_w rfl) rfl (ex_store rfl (F.e rfl) (F.e rfl) hr) ⟨_, H⟩ ?_; clear hr
    refine hzh_do (v := (.pointer (some ⟨b5, 24, none⟩))) (i := 6) F rfl rfl (by kernel_rfl) (fun _ _ _ h => h) ⟨_, H⟩ (fun wz ⟨c9, H⟩ => (ex_faddr rfl (F.e rfl) (fa_27_24 _ _ _))) ?_; clear F A; intro A F
    obtain ⟨W9, hr, hB, hk⟩ := gx_set (P := Tryz.prog) (T := 23) (i := 24) (v := (.slice s.pa p.props.length s.pc)) (c' := (Pk.cells ({ { (zk p.kind) with code := p.code } with props := p.props }) ({ (⟨none, 0, none, 0, none, 0, none, 0⟩ : Sl) with pa := s.pa, pc := s.pc }))) _ (H.b.at_ (j := 0) rfl).1 (gs1_23 _) rfl (by simp [Pk.cells, zeroPk]) rfl
    replace H : Hp _ _ [_, _, _] := Hp.turn [] H hk hB; clear hk hB; refine gxh_st (i := 7) rfl (by kernel_rfl) (gx_w rfl) rfl (ex_store rfl (F.e rfl) (F.e rfl) hr) ⟨_, H⟩ ?_; clear hr
    refine wpAnyH_done (by kernel_rfl) ?_ _
    refine hK6 _ _ ?_
    refine wp_seq_k (fun K71 hK71 => ?_)
    refine gx_region ?_
    refine hz_do F rfl (ex_load rfl (F.e rfl) (gl_agg ((Pk.cells ({ { (zk p.kind) with code := p.code } with props := p.props }) ({ (⟨none, 0, none, 0, none, 0, none, 0⟩ : Sl) with pa := s.pa, pc := s.pc }))) rfl (ga_27 _) (gs_27 _) (fun i => H.cs 0 rfl i))) ?_; clear F A; intro A F
    obtain ⟨W9, hr, hB, hk⟩ := gx_storeAgg (P := Tryz.prog) (S := 27) (c := (Pk.cells ({ { (zk p.kind) with code := p.code } with props := p.props }) ({ (⟨none, 0, none, 0, none, 0, none, 0⟩ : Sl) with pa := s.pa, pc := s.pc }))) _ (H.b.at_ (j := 1) rfl).1 (gs_27 _) rfl (pk_one _ _)
    refine hz_st (ex_store rfl (F.e rfl) (F.e rfl) hr) ?_; clear hr; replace H : Hp _ _ [_, _, _] := Hp.turn [_] H hk hB; clear hk hB
    refine wpList_nil ?_
    refine hK71 _ _ ?_
    refine gx_ret ?_
    refine (show bodyPost Tryz.prog Tryz.f15 (fun e w' => e = .returned (Pk.val (bareP p) (ownSl p s)) ∧ Kept No w w') Exit.ret _ _ from ?_)
    exact bodyPost_ret (fn := Tryz.f15) (gx_resc rfl (F.g 2 _ rfl) (gl_agg ((Pk.cells ({ { (zk p.kind) with code := p.code } with props := p.props }) ({ (⟨none, 0, none, 0, none, 0, none, 0⟩ : Sl) with pa := s.pa, pc := s.pc }))) rfl (ga_27 _) (gs_27 _) (fun i => H.cs 1 rfl i))) F.d (⟨by unfold Pk.val; exact congrArg (fun x => Ending.returned (.agg x)) (congr (congrArg Pk.cells (by (try simp only [← Bool.not_eq_true, Bool.or_eq_true, Bool.and_eq_true, decide_eq_true_eq] at hb9 hb37 hb40 hb44 hb47 hb50 hb52 hb56 hb58 hb62 hb64 hb68 hb70); unfold bareP; simp only [hb9, hb37, hb40, hb44, hb47, hb50, hb52, hb56, hb58, hb62, hb64, hb68, hb70, ↓reduceIte, or_true, true_or, or_self, Int.reduceEq, or_false, false_or] <;> (first | done | rfl))) (by (try simp only [← Bool.not_eq_true, Bool.or_eq_true, Bool.and_eq_true, decide_eq_true_eq] at hb9 hb37 hb40 hb44 hb47 hb50 hb52 hb56 hb58 hb62 hb64 hb68 hb70); unfold ownSl; simp only [hb9, hb37, hb40, hb44, hb47, hb50, hb52, hb56, hb58, hb62, hb64, hb68, hb70, ↓reduceIte, or_true, true_or, or_self, Int.reduceEq, or_false, false_or] <;> (first | done | rfl))), H.k⟩)
  refine wp_skip ?_
  refine hK6 _ _ ?_
  refine wp_seq_k (fun K72 hK72 => ?_)
  refine gx_region ?_
  refine hz_do F rfl (ex_load rfl (F.e rfl) (gl_agg ((Pk.cells ((zk p.kind)) ((⟨none, 0, none, 0, none, 0, none, 0⟩ : Sl)))) rfl (ga_27 _) (gs_27 _) (fun i => H.cs 0 rfl i))) ?_; clear F A; intro A F
  obtain ⟨W9, hr, hB, hk⟩ := gx_storeAgg (P := Tryz.prog) (S := 27) (c := (Pk.cells ((zk p.kind)) ((⟨none, 0, none, 0, none, 0, none, 0⟩ : Sl)))) _ (H.b.at_ (j := 1) rfl).1 (gs_27 _) rfl (pk_one _ _)
  refine hz_st (ex_store rfl (F.e rfl) (F.e rfl) hr) ?_; clear hr; replace H : Hp _ _ [_, _, _] := Hp.turn [_] H hk hB; clear hk hB
  refine wpList_nil ?_
  refine hK72 _ _ ?_
  refine gx_ret ?_
  refine (show bodyPost Tryz.prog Tryz.f15 (fun e w' => e = .returned (Pk.val (bareP p) (ownSl p s)) ∧ Kept No w w') Exit.ret _ _ from ?_)
  exact bodyPost_ret (fn := Tryz.f15) (gx_resc rfl (F.g 2 _ rfl) (gl_agg ((Pk.cells ((zk p.kind)) ((⟨none, 0, none, 0, none, 0, none, 0⟩ : Sl)))) rfl (ga_27 _) (gs_27 _) (fun i => H.cs 1 rfl i))) F.d (⟨by unfold Pk.val; exact congrArg (fun x => Ending.returned (.agg x)) (congr (congrArg Pk.cells (by (try simp only [← Bool.not_eq_true, Bool.or_eq_true, Bool.and_eq_true, decide_eq_true_eq] at hb9 hb37 hb40 hb44 hb47 hb50 hb52 hb56 hb58 hb62 hb64 hb68 hb70); unfold bareP; simp only [hb9, hb37, hb40, hb44, hb47, hb50, hb52, hb56, hb58, hb62, hb64, hb68, hb70, ↓reduceIte, or_true, true_or, or_self, Int.reduceEq, or_false, false_or] <;> (first | done | rfl))) (by (try simp only [← Bool.not_eq_true, Bool.or_eq_true, Bool.and_eq_true, decide_eq_true_eq] at hb9 hb37 hb40 hb44 hb47 hb50 hb52 hb56 hb58 hb62 hb64 hb68 hb70); unfold ownSl; simp only [hb9, hb37, hb40, hb44, hb47, hb50, hb52, hb56, hb58, hb62, hb64, hb68, hb70, ↓reduceIte, or_true, true_or, or_self, Int.reduceEq, or_false, false_or] <;> (first | done | rfl))), H.k⟩)
theorem rconnect_any (v : Int) (p : Pk) (s : Sl) (w : World) (hp : p.At s w) (hF : Fit p) :
    Calls Tryz.prog 26 #[.int .i64 v, p.val s] w fun e w' => e = .returned (.bool (connectD v p)) ∧ Kept No w w' := by
  have hcl : decide (p.client.size = 0) = decide (p.client = ⟨#[]⟩) := by
    by_cases h : p.client.size = 0
    · rw [empty_of h]; rfl
    · have h2 : p.client ≠ ⟨#[]⟩ := fun e => h (by rw [e]; rfl)
      simp [h2, h]
  go_enter Tryz.func26, Tryz.ntmps26
  generalize hA : ({ tmps := _, defers := [] } : Act) = A
  have F : Fr A 61 [(1, (Pk.val p s)), (0, (.int .i64 v))] := by rw [← hA]; exact (Fr.cons (i := 1) (v := (Pk.val p s)) (Fr.cons (i := 0) (v := (.int .i64 v)) (Fr.nil0 rfl rfl) rfl) rfl)
  clear hA; have H := Hp.start w
  refine wp_seq_k (fun K1 hK1 => ?_)
  refine gx_region ?_
  refine hz_new (c := (Pk.cells p s)) (t := 27) F H rfl (ex_box rfl (F.e rfl) (gx_box _ _)) ?_; clear F A; intro b2 W A hk hN H9 F; clear H; have H := H9; clear H9
  clear hk hN
  refine hz_do F rfl (ex_assign rfl gx_evc) ?_; clear F A; intro A F
  refine wpList_nil ?_
  refine hK1 _ _ ?_
  refine wp_seq_k (fun K3 hK3 => ?_)
  refine wp_seq_k (fun K4 hK4 => ?_)
  refine gx_region ?_
  refine hz_fld F rfl rfl (F.e rfl) (fa_27_8 _ _ _) (ag_4 _) (H.c 0 rfl rfl) ?_; clear F A; intro A F
  refine hz_do F rfl (ex_move rfl (F.e rfl)) ?_; clear F A; intro A F
  refine hz_fldg F rfl rfl (hw_t F rfl rfl rfl) rfl rfl (fun hG => (F.e rfl)) (fa_27_11 _ _ _) (ag_5 _) (H.c 0 rfl rfl) ?_; clear F A; intro A F
  refine hz_g F rfl (hw_t F rfl rfl rfl) (fun hG => (ex_bin rfl (F.o rfl hG) gx_evc (rn_gtrN (i := p.willQoS) (j := 2)))) ?_; clear F A; intro A F
  refine hz_g F rfl (hw_t F rfl rfl rfl) (fun hG => (ex_move rfl (F.o rfl hG))) ?_; clear F A; intro A F
  refine hz_fldg F rfl rfl (hw_of F rfl rfl rfl) rfl rfl (fun hG => (F.e rfl)) (fa_27_14 _ _ _) (ag_9 _) (H.c 0 rfl rfl) ?_; clear F A; intro A F
  refine hz_callg F H rfl (hw_of F rfl rfl rfl) (fun hG => (ex_call rfl rfl (gx_l1 (F.o rfl hG) gx_l0) fn_62)) (fun hG => rname_any p.willTopic _ (by have := hF.r.client; have := hF.r.user; have := hF.r.topic; have := hF.r.willTopic; omega)) ?_; clear F H A; intro W A hk H F
  clear hk
  refine hz_g F rfl (hw_of F rfl rfl rfl) (fun hG => (ex_not rfl (F.o rfl hG))) ?_; clear F A; intro A F
  refine hz_g F rfl (hw_t F rfl rfl rfl) (fun hG => (ex_pickO rfl (F.o rfl hG) (fun hx => (F.o rfl (gai hG (gnt hx)))) rfl)) ?_; clear F A; intro A F
  refine hz_do F rfl (ex_pickA rfl (F.e rfl) (fun hx => (F.o rfl hx)) rfl) ?_; clear F A; intro A F
  refine hz_do F rfl (ex_move rfl (F.e rfl)) ?_; clear F A; intro A F
  refine hz_g F rfl (hw_f F rfl rfl rfl) (fun hG => (ex_move rfl (F.e rfl))) ?_; clear F A; intro A F
  refine hz_g F rfl (hw_f F rfl rfl rfl) (fun hG => (ex_bin rfl (F.o rfl hG) gx_evc (rn_eql))) ?_; clear F A; intro A F
  refine hz_g F rfl (hw_f F rfl rfl rfl) (fun hG => (ex_move rfl (F.o rfl hG))) ?_; clear F A; intro A F
  refine hz_fldg F rfl rfl (hw_ot F rfl rfl rfl) rfl rfl (fun hG => (F.e rfl)) (fa_27_10 _ _ _) (ag_4 _) (H.c 0 rfl rfl) ?_; clear F A; intro A F
  refine hz_g F rfl (hw_ot F rfl rfl rfl) (fun hG => (ex_move rfl (F.o rfl hG))) ?_; clear F A; intro A F
  refine hz_fldg F rfl rfl (hw_ot F rfl rfl rfl) rfl rfl (fun hG => (F.e rfl)) (fa_27_9 _ _ _) (ag_4 _) (H.c 0 rfl rfl) ?_; clear F A; intro A F
  refine hz_g F rfl (hw_ot F rfl rfl rfl) (fun hG => (ex_not rfl (F.o rfl hG))) ?_; clear F A; intro A F
  refine hz_g F rfl (hw_ot F rfl rfl rfl) (fun hG => (ex_pickA rfl (F.o rfl hG) (fun hx => (F.o rfl (gai hG hx))) rfl)) ?_; clear F A; intro A F
  refine hz_g F rfl (hw_ot F rfl rfl rfl) (fun hG => (ex_move rfl (F.o rfl hG))) ?_; clear F A; intro A F
  refine hz_fldg F rfl rfl (hw_of F rfl rfl rfl) rfl rfl (fun hG => (F.e rfl)) (fa_27_7 _ _ _) (ag_9 _) (H.c 0 rfl rfl) ?_; clear F A; intro A F
  refine hz_g F rfl (hw_of F rfl rfl rfl) (fun hG => (ex_bin rfl (F.o rfl hG) gx_evc (rn_seql))) ?_; clear F A; intro A F
  refine hz_g F rfl (hw_of F rfl rfl rfl) (fun hG => (ex_move rfl (F.o rfl hG))) ?_; clear F A; intro A F
  refine hz_fldg F rfl rfl (hw_ot F rfl rfl rfl) rfl rfl (fun hG => (F.e rfl)) (fa_27_5 _ _ _) (ag_4 _) (H.c 0 rfl rfl) ?_; clear F A; intro A F
  refine hz_g F rfl (hw_ot F rfl rfl rfl) (fun hG => (ex_not rfl (F.o rfl hG))) ?_; clear F A; intro A F
  refine hz_g F rfl (hw_of F rfl rfl rfl) (fun hG => (ex_pickA rfl (F.o rfl hG) (fun hx => (F.o rfl (gai hG hx))) rfl)) ?_; clear F A; intro A F
  refine hz_g F rfl (hw_ot F rfl rfl rfl) (fun hG => (ex_pickO rfl (F.o rfl hG) (fun hx => (F.o rfl (gai hG (gnt hx)))) rfl)) ?_; clear F A; intro A F
  refine hz_g F rfl (hw_f F rfl rfl rfl) (fun hG => (ex_pickA rfl (F.o rfl hG) (fun hx => (F.o rfl (gai hG hx))) rfl)) ?_; clear F A; intro A F
  refine hz_do F rfl (ex_pickO rfl (F.e rfl) (fun hx => (F.o rfl (gnt hx))) rfl) ?_; clear F A; intro A F
  refine wpList_nil ?_
  refine hK4 _ _ ?_
  refine hz_cond (F.e rfl) (fun hb6 => ?_) (fun hb6 => ?_)
  · skip
    replace F := ((F.nil.cons (F.g 4 _ rfl)).cons (F.g 3 _ rfl))
    refine wp_seq_k (fun K7 hK7 => ?_)
    refine gx_region ?_
    refine hz_do F rfl (ex_assign rfl gx_evc) ?_; clear F A; intro A F
    refine wpList_nil ?_
    refine hK7 _ _ ?_
    refine gx_ret ?_
    refine (show bodyPost Tryz.prog Tryz.f26 (fun e w' => e = .returned (.bool (connectD v p)) ∧ Kept No w w') Exit.ret _ _ from ?_)
    exact bodyPost_ret (fn := Tryz.f26) (gx_res rfl (F.g 4 _ rfl)) F.d (⟨congrArg (fun b => Ending.returned (.bool b)) (by have h7 := hb6; (try simp only [Bool.or_assoc, Bool.and_assoc] at h7); unfold connectD; rw [hcl]; (try simp only [Bool.or_assoc, Bool.and_assoc]); rw [h7]; (first | rfl | (simp; done))), H.k⟩)
  replace F := ((F.nil.cons (F.g 4 _ rfl)).cons (F.g 3 _ rfl))
  refine wp_skip ?_
  refine hK3 _ _ ?_
  refine wp_seq_k (fun K8 hK8 => ?_)
  refine gx_region ?_
  refine hz_fld F rfl rfl (F.e rfl) (fa_27_17 _ _ _) (ag_9 _) (H.c 0 rfl rfl) ?_; clear F A; intro A F
  refine hz_do F rfl (ex_len rfl (gx_l1 (F.e rfl) gx_l0) (rn_lenstr Tryz.underlying9)) ?_; clear F A; intro A F
  refine hz_do F rfl (ex_bin rfl (F.e rfl) gx_evc (rn_leqN (i := p.pass.size) (j := 65535))) ?_; clear F A; intro A F
  refine hz_do F rfl (ex_move rfl (F.e rfl)) ?_; clear F A; intro A F
  refine hz_fldg F rfl rfl (hw_t F rfl rfl rfl) rfl rfl (fun hG => (F.e rfl)) (fa_27_15 _ _ _) (ag_9 _) (H.c 0 rfl rfl) ?_; clear F A; intro A F
  refine hz_g F rfl (hw_t F rfl rfl rfl) (fun hG => (ex_len rfl (gx_l1 (F.o rfl hG) gx_l0) (rn_lenstr Tryz.underlying9))) ?_; clear F A; intro A F
  refine hz_g F rfl (hw_t F rfl rfl rfl) (fun hG => (ex_bin rfl (F.o rfl hG) gx_evc (rn_leqN (i := p.willLoad.size) (j := 65535)))) ?_; clear F A; intro A F
  refine hz_do F rfl (ex_pickA rfl (F.e rfl) (fun hx => (F.o rfl hx)) rfl) ?_; clear F A; intro A F
  refine hz_do F rfl (ex_move rfl (F.e rfl)) ?_; clear F A; intro A F
  refine hz_fldg F rfl rfl (hw_t F rfl rfl rfl) rfl rfl (fun hG => (F.e rfl)) (fa_27_7 _ _ _) (ag_9 _) (H.c 0 rfl rfl) ?_; clear F A; intro A F
  refine hz_callg F H rfl (hw_t F rfl rfl rfl) (fun hG => (ex_call rfl rfl (gx_l1 (F.o rfl hG) gx_l0) fn_63)) (fun hG => refRightK p.client _ (by have := hF.r.client; have := hF.r.user; have := hF.r.topic; have := hF.r.willTopic; omega)) ?_; clear F H A; intro W A hk H F
  clear hk
  refine hz_do F rfl (ex_pickA rfl (F.e rfl) (fun hx => (F.o rfl hx)) rfl) ?_; clear F A; intro A F
  refine hz_do F rfl (ex_move rfl (F.e rfl)) ?_; clear F A; intro A F
  refine hz_fldg F rfl rfl (hw_t F rfl rfl rfl) rfl rfl (fun hG => (F.e rfl)) (fa_27_16 _ _ _) (ag_9 _) (H.c 0 rfl rfl) ?_; clear F A; intro A F
  refine hz_callg F H rfl (hw_t F rfl rfl rfl) (fun hG => (ex_call rfl rfl (gx_l1 (F.o rfl hG) gx_l0) fn_63)) (fun hG => refRightK p.user _ (by have := hF.r.client; have := hF.r.user; have := hF.r.topic; have := hF.r.willTopic; omega)) ?_; clear F H A; intro W A hk H F
  clear hk
  refine hz_do F rfl (ex_pickA rfl (F.e rfl) (fun hx => (F.o rfl hx)) rfl) ?_; clear F A; intro A F
  refine hz_do F rfl (ex_assign rfl (F.e rfl)) ?_; clear F A; intro A F
  refine wpList_nil ?_
  refine hK8 _ _ ?_
  refine gx_ret ?_
  refine (show bodyPost Tryz.prog Tryz.f26 (fun e w' => e = .returned (.bool (connectD v p)) ∧ Kept No w w') Exit.ret _ _ from ?_)
  exact bodyPost_ret (fn := Tryz.f26) (gx_res rfl (F.g 4 _ rfl)) F.d (⟨congrArg (fun b => Ending.returned (.bool b)) (by have h7 := hb6; (try simp only [Bool.or_assoc, Bool.and_assoc] at h7); unfold connectD; rw [hcl]; (try simp only [Bool.or_assoc, Bool.and_assoc]); rw [h7]; (first | rfl | (simp; done))), H.k⟩)
def publishC (v : Int) (p : Pk) : Bool :=
  match decide (2 < p.qos) with
  | true => false
  | false => match p.dup && decide (p.qos = 0) with
    | true => false
    | false => match !(decide (p.id = 0) == decide (p.qos = 0)) with
      | true => false
      | false => nameB p.topic || (decide (v = 5) && (decide (p.topic = ⟨#[]⟩) && (getL p.props 35).isSome))
theorem publishC_eq (v : Int) (p : Pk) : publishC v p = publishD v p := by
  have hcl : decide (p.topic = ⟨#[]⟩) = decide (p.topic.size = 0) := by
    by_cases h : p.topic.size = 0
    · rw [empty_of h]; rfl
    · have h2 : p.topic ≠ ⟨#[]⟩ := fun e => h (by rw [e]; rfl)
      simp [h2, h]
  unfold publishC publishD
  rw [hcl]
  by_cases h1 : 2 < p.qos
  · rw [decide_eq_true h1, if_pos (.inl h1)]
  · rw [decide_eq_false h1]
    cases h2 : p.dup with
    | true =>
      by_cases h3 : p.qos = 0
      · rw [decide_eq_true h3, if_pos (.inr (.inl ⟨rfl, h3⟩))]; rfl
      · rw [decide_eq_false h3]
        by_cases h4 : p.id = 0
        · rw [decide_eq_true h4, if_pos (.inr (.inr (by simp)))]; rfl
        · rw [decide_eq_false h4, if_neg (by simp [h1, h3])]; rfl
    | false =>
      by_cases h3 : p.qos = 0
      · rw [decide_eq_true h3]
        by_cases h4 : p.id = 0
        · rw [decide_eq_true h4, if_neg (by simp [h1])]; rfl
        · rw [decide_eq_false h4, if_pos (.inr (.inr (by simp)))]; rfl
      · rw [decide_eq_false h3]
        by_cases h4 : p.id = 0
        · rw [decide_eq_true h4, if_pos (.inr (.inr (by simp)))]; rfl
        · rw [decide_eq_false h4, if_neg (by simp [h1])]; rfl
theorem rpublish_any (v : Int) (p : Pk) (s : Sl) (w : World) (hp : p.At s w) (hF : Fit p) :
    Calls Tryz.prog 28 #[.int .i64 v, p.val s] w fun e w' => e = .returned (.bool (publishD v p)) ∧ Kept No w w' := by
  rw [← publishC_eq]
  go_enter Tryz.func28, Tryz.ntmps28
  generalize hA : ({ tmps := _, defers := [] } : Act) = A
  have F : Fr A 49 [(1, (Pk.val p s)), (0, (.int .i64 v))] := by rw [← hA]; exact (Fr.cons (i := 1) (v := (Pk.val p s)) (Fr.cons (i := 0) (v := (.int .i64 v)) (Fr.nil0 rfl rfl) rfl) rfl)
  clear hA; have H := Hp.start w
  refine wp_seq_k (fun K1 hK1 => ?_)
  refine gx_region ?_
  refine hz_new (c := (Pk.cells p s)) (t := 27) F H rfl (ex_box rfl (F.e rfl) (gx_box _ _)) ?_; clear F A; intro b2 W A hk hN H9 F; clear H; have H := H9; clear H9
  clear hk hN
  refine hz_do F rfl (ex_assign rfl gx_evc) ?_; clear F A; intro A F
  refine wpList_nil ?_
  refine hK1 _ _ ?_
  refine wp_seq_k (fun K3 hK3 => ?_)
  refine wp_seq_k (fun K4 hK4 => ?_)
  refine gx_region ?_
  refine hz_fld F rfl rfl (F.e rfl) (fa_27_3 _ _ _) (ag_5 _) (H.c 0 rfl rfl) ?_; clear F A; intro A F
  refine hz_do F rfl (ex_bin rfl (F.e rfl) gx_evc (rn_gtrN (i := p.qos) (j := 2))) ?_; clear F A; intro A F
  refine hz_do F rfl (ex_move rfl (F.e rfl)) ?_; clear F A; intro A F
  refine hz_fldg F rfl rfl (hw_f F rfl rfl rfl) rfl rfl (fun hG => (F.e rfl)) (fa_27_1 _ _ _) (ag_4 _) (H.c 0 rfl rfl) ?_; clear F A; intro A F
  refine hz_g F rfl (hw_f F rfl rfl rfl) (fun hG => (ex_move rfl (F.o rfl hG))) ?_; clear F A; intro A F
  refine hz_fldg F rfl rfl (hw_ot F rfl rfl rfl) rfl rfl (fun hG => (F.e rfl)) (fa_27_3 _ _ _) (ag_5 _) (H.c 0 rfl rfl) ?_; clear F A; intro A F
  refine hz_g F rfl (hw_ot F rfl rfl rfl) (fun hG => (ex_bin rfl (F.o rfl hG) gx_evc (rn_eqlN (i := p.qos) (j := 0)))) ?_; clear F A; intro A F
  refine hz_g F rfl (hw_f F rfl rfl rfl) (fun hG => (ex_pickA rfl (F.o rfl hG) (fun hx => (F.o rfl (gai hG hx))) rfl)) ?_; clear F A; intro A F
  refine hz_do F rfl (ex_pickO rfl (F.e rfl) (fun hx => (F.o rfl (gnt hx))) rfl) ?_; clear F A; intro A F
  refine hz_do F rfl (ex_move rfl (F.e rfl)) ?_; clear F A; intro A F
  refine hz_fldg F rfl rfl (hw_f F rfl rfl rfl) rfl rfl (fun hG => (F.e rfl)) (fa_27_4 _ _ _) (ag_22 _) (H.c 0 rfl rfl) ?_; clear F A; intro A F
  refine hz_g F rfl (hw_f F rfl rfl rfl) (fun hG => (ex_bin rfl (F.o rfl hG) gx_evc (rn_eqlN (i := p.id) (j := 0)))) ?_; clear F A; intro A F
  refine hz_fldg F rfl rfl (hw_f F rfl rfl rfl) rfl rfl (fun hG => (F.e rfl)) (fa_27_3 _ _ _) (ag_5 _) (H.c 0 rfl rfl) ?_; clear F A; intro A F
  refine hz_g F rfl (hw_f F rfl rfl rfl) (fun hG => (ex_bin rfl (F.o rfl hG) gx_evc (rn_eqlN (i := p.qos) (j := 0)))) ?_; clear F A; intro A F
  refine hz_g F rfl (hw_f F rfl rfl rfl) (fun hG => (ex_bin rfl (F.o rfl hG) (F.o rfl hG) (rn_bneq Tryz.underlying4))) ?_; clear F A; intro A F
  refine hz_do F rfl (ex_pickO rfl (F.e rfl) (fun hx => (F.o rfl (gnt hx))) rfl) ?_; clear F A; intro A F
  refine wpList_nil ?_
  refine hK4 _ _ ?_
  refine hz_cond (F.e rfl) (fun hb5 => ?_) (fun hb5 => ?_)
  · skip
    replace F := (((F.nil.cons (F.g 4 _ rfl)).cons (F.g 3 _ rfl)).cons (F.g 0 _ rfl))
    refine wp_seq_k (fun K6 hK6 => ?_)
    refine gx_region ?_
    refine hz_do F rfl (ex_assign rfl gx_evc) ?_; clear F A; intro A F
    refine wpList_nil ?_
    refine hK6 _ _ ?_
    refine gx_ret ?_
    refine (show bodyPost Tryz.prog Tryz.f28 (fun e w' => e = .returned (.bool (publishC v p)) ∧ Kept No w w') Exit.ret _ _ from ?_)
    exact bodyPost_ret (fn := Tryz.f28) (gx_res rfl (F.g 4 _ rfl)) F.d (⟨congrArg (fun b => Ending.returned (.bool b)) (by have h7 := hb5; unfold publishC; revert h7; generalize decide (2 < p.qos) = x1; generalize decide (p.qos = 0) = x2; generalize decide (p.id = 0) = x3; generalize nameB p.topic = x4; generalize decide (v = 5) = x5; generalize decide (p.topic = ⟨#[]⟩) = x6; generalize (getL p.props 35).isSome = x7; generalize p.dup = x8; cases x1 <;> cases x2 <;> cases x3 <;> cases x8 <;> simp [Bool.and_assoc]), H.k⟩)
  replace F := (((F.nil.cons (F.g 4 _ rfl)).cons (F.g 3 _ rfl)).cons (F.g 0 _ rfl))
  refine wp_skip ?_
  refine hK3 _ _ ?_
  refine wp_seq_k (fun K7 hK7 => ?_)
  refine gx_region ?_
  refine hz_fld F rfl rfl (F.e rfl) (fa_27_24 _ _ _) (ag_23 _) (H.c 0 rfl rfl) ?_; clear F A; intro A F
  refine hz_call (R := fun vv ww => ∃ x9 : Pr, vv = .tuple #[.agg #[.int .u8 x9.id, .int .u32 x9.n, .string x9.a, .string x9.b], .bool (getL p.props 35).isSome]) F H rfl (ex_call rfl rfl (gx_l1 (F.e rfl) (gx_l1 gx_evc gx_l0)) fn_29) ((rget_any s.pa s.pc p.props 35 _ (hp.kept H.k).hp hF.few.hp).mono fun e9 ww h9 => ⟨_, h9.1, ⟨_, rfl⟩, h9.2⟩) ?_; clear F H A; intro vv W A hR hk H F; obtain ⟨x8, rfl⟩ := hR
  clear hk
  refine hz_do F rfl (ex_move rfl (F.e rfl)) ?_; clear F A; intro A F
  refine hz_do F rfl (ex_extract rfl (F.e rfl) rfl) ?_; clear F A; intro A F
  refine hz_do F rfl (ex_extract rfl (F.e rfl) rfl) ?_; clear F A; intro A F
  refine hz_new (c := #[(.int .u8 0), (.int .u32 0), (.string ⟨#[]⟩), (.string ⟨#[]⟩)]) (t := 50) F H rfl (ex_alloc rfl (al_50 _)) ?_; clear F A; intro b9 W A hk hN H9 F; clear H; have H := H9; clear H9
  clear hk hN
  obtain ⟨W9, hr, hB, hk⟩ := gx_storeAgg (P := Tryz.prog) (S := 50) (c := #[(.int .u8 ((x8.id : Int))), (.int .u32 ((x8.n : Int))), (.string x8.a), (.string x8.b)]) _ (H.b.at_ (j := 0) rfl).1 (gs_50 _) rfl (by simp [Value.oneCell'])
  refine hz_st (ex_store rfl (F.e rfl) (F.e rfl) hr) ?_; clear hr; replace H : Hp _ _ [_, _] := Hp.turn [] H hk hB; clear hk hB
  refine hz_do F rfl (ex_assign rfl (F.e rfl)) ?_; clear F A; intro A F
  refine wpList_nil ?_
  refine hK7 _ _ ?_
  refine wp_seq_k (fun K10 hK10 => ?_)
  refine gx_region ?_
  refine hz_fld F rfl rfl (F.e rfl) (fa_27_20 _ _ _) (ag_9 _) (H.c 1 rfl rfl) ?_; clear F A; intro A F
  refine hz_callk F H rfl (ex_call rfl rfl (gx_l1 (F.e rfl) gx_l0) fn_62) (rname_any p.topic _ (by have := hF.r.client; have := hF.r.user; have := hF.r.topic; have := hF.r.willTopic; omega)) ?_; clear F H A; intro W A hk H F
  clear hk
  refine hz_do F rfl (ex_move rfl (F.e rfl)) ?_; clear F A; intro A F
  refine hz_g F rfl (hw_f F rfl rfl rfl) (fun hG => (ex_move rfl (F.e rfl))) ?_; clear F A; intro A F
  refine hz_g F rfl (hw_f F rfl rfl rfl) (fun hG => (ex_bin rfl (F.o rfl hG) gx_evc (rn_eql))) ?_; clear F A; intro A F
  refine hz_g F rfl (hw_f F rfl rfl rfl) (fun hG => (ex_move rfl (F.o rfl hG))) ?_; clear F A; intro A F
  refine hz_fldg F rfl rfl (hw_ot F rfl rfl rfl) rfl rfl (fun hG => (F.e rfl)) (fa_27_20 _ _ _) (ag_9 _) (H.c 1 rfl rfl) ?_; clear F A; intro A F
  refine hz_g F rfl (hw_ot F rfl rfl rfl) (fun hG => (ex_bin rfl (F.o rfl hG) gx_evc (rn_seql))) ?_; clear F A; intro A F
  refine hz_g F rfl (hw_f F rfl rfl rfl) (fun hG => (ex_pickA rfl (F.o rfl hG) (fun hx => (F.o rfl (gai hG hx))) rfl)) ?_; clear F A; intro A F
  refine hz_g F rfl (hw_f F rfl rfl rfl) (fun hG => (ex_move rfl (F.o rfl hG))) ?_; clear F A; intro A F
  refine hz_g F rfl (hw_ot F rfl rfl rfl) (fun hG => (ex_move rfl (F.e rfl))) ?_; clear F A; intro A F
  refine hz_g F rfl (hw_f F rfl rfl rfl) (fun hG => (ex_pickA rfl (F.o rfl hG) (fun hx => (F.o rfl (gai hG hx))) rfl)) ?_; clear F A; intro A F
  refine hz_do F rfl (ex_pickO rfl (F.e rfl) (fun hx => (F.o rfl (gnt hx))) rfl) ?_; clear F A; intro A F
  refine hz_do F rfl (ex_assign rfl (F.e rfl)) ?_; clear F A; intro A F
  refine wpList_nil ?_
  refine hK10 _ _ ?_
  refine gx_ret ?_
  refine (show bodyPost Tryz.prog Tryz.f28 (fun e w' => e = .returned (.bool (publishC v p)) ∧ Kept No w w') Exit.ret _ _ from ?_)
  exact bodyPost_ret (fn := Tryz.f28) (gx_res rfl (F.g 4 _ rfl)) F.d (⟨congrArg (fun b => Ending.returned (.bool b)) (by have h7 := hb5; unfold publishC; revert h7; generalize decide (2 < p.qos) = x1; generalize decide (p.qos = 0) = x2; generalize decide (p.id = 0) = x3; generalize nameB p.topic = x4; generalize decide (v = 5) = x5; generalize decide (p.topic = ⟨#[]⟩) = x6; generalize (getL p.props 35).isSome = x7; generalize p.dup = x8; cases x1 <;> cases x2 <;> cases x3 <;> cases x8 <;> simp [Bool.and_assoc]), H.k⟩)
end Go.Proofs.YtjihgcdhheoniaaGreatDoor
