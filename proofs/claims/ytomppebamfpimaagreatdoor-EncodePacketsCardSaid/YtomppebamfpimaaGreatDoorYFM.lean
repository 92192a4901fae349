import Derived.Test.YtomppebamfpimaaGreatDoorYFI
import Derived.Test.YtomppebamfpimaaGreatDoorYFN
import Derived.Test.YtomppebamfpimaaGreatDoorYFJ
import Derived.Test.YtomppebamfpimaaGreatDoorYFB
namespace Go.Proofs.YtomppebamfpimaaGreatDoor
open Go.RowKit
set_option linter.unusedVariables false
set_option linter.unusedSimpArgs false
set_option maxRecDepth 100000
theorem refRightK (s : ByteArray) (w : World) (hs : s.size ≤ 9223372036854775807) : Calls Tryz.prog 133 #[.string s] w fun e w' => e = .returned (.bool (okText s)) ∧ Kept No w w' := (refRight_any s w hs).mono fun e9 ww h9 => ⟨h9.1, h9.2 ▸ Kept.refl No _⟩
set_option maxHeartbeats 1000000 in
theorem rbare_any (p : Pk) (s : Sl) (w : World) (hp : p.At s w) :
  Calls Tryz.prog 60 #[p.val s] w fun e w' => e = .returned (Pk.val (bareP p) (ownSl p s)) ∧ Kept No w w' := by
 let RR : Ending → World → Prop := fun e w' => e = .returned (Pk.val (bareP p) (ownSl p s)) ∧ Kept No w w'
 go_enter Tryz.func60, Tryz.ntmps60
 generalize hA : ({ tmps := _, defers := [] } : Act) = A
 have F : Fr A 141 [(0, (Pk.val p s))] := by rw [← hA]; exact (Fr.cons (i := 0) (v := (Pk.val p s)) (Fr.nil0 rfl rfl) rfl)
 clear hA; have H := Hp.start w
 refine wp_seq_k (fun K1 hK1 => gx_region ?_)
 refine hz_new (c := (Pk.cells p s)) (t := 27) F H rfl (ex_box rfl (F.e rfl) (gx_box _ _)) ?_; clear F A; intro b2 W A hk hN H9 F; clear H; have H := H9; clear H9
 clear hk hN
 refine hz_new (c := zeroPk) (t := 27) F H rfl (ex_alloc rfl (al_27 _)) ?_; clear F A; intro b3 W A hk hN H9 F; clear H; have H := H9; clear H9
 clear hk hN
 refine wpList_nil (hK1 _ _ ?_)
 refine wp_seq_k (fun K4 hK4 => gx_region ?_)
 iterate 2 (refine zd ?_; intro A F)
 refine hz_do (v := (Pk.val ((zk p.kind)) ((⟨none, 0, none, 0, none, 0, none, 0⟩ : Sl)))) F rfl (ex_build rfl (gx_p1 (F.e rfl) gx_p0) (by kernel_rfl)) ?_; intro A F
 refine hz_new (c := zeroPk) (t := 27) F H rfl (ex_alloc rfl (al_27 _)) ?_; clear F A; intro b5 W A hk hN H9 F; clear H; have H := H9; clear H9
 clear hk hN
 obtain ⟨W9, hr, hB, hk⟩ := gx_storeAgg (P := Tryz.prog) (S := 27) (c := (Pk.cells ((zk p.kind)) ((⟨none, 0, none, 0, none, 0, none, 0⟩ : Sl)))) _ (H.b.at_ (j := 0) rfl).1 (gs_27 _) rfl (pk_one _ _)
 refine hz_st (ex_store rfl (F.e rfl) (F.e rfl) hr) ?_; clear hr; replace H : Hp _ _ [_, _, _] := Hp.turn [] H hk hB; clear hk hB
 refine wpList_nil (hK4 _ _ ?_)
 refine wp_seq_k (fun K6 hK6 => ?_)
 refine wp_seq_k (fun K7 hK7 => gx_region ?_)
 iterate 2 (refine zd ?_; intro A F)
 refine wpList_nil (hK7 _ _ ?_)
 refine wp_block ?_
 refine wp_seq_k (fun K8 hK8 => gx_region ?_)
 refine zb (rn_eql) ?_; intro A F
 refine zd ?_; intro A F
 refine wpList_nil (hK8 _ _ ?_)
 refine zc (fun hb9 => ?_) (fun hb9 => ?_)
 ·skip
  refine wp_seq_k (fun K10 hK10 => ?_)
  refine wp_region_held_drew (S := fun wx => ∃ c9, Hp _ wx [⟨b5, 27, c9⟩, _, _]) (by kernel_rfl) ⟨_, H.drew⟩ (fun H9 => ?_); clear H9; replace H := H.drew
  generalize World.drew _ = W at *
  refine td 0 ?_; intro A F
  refine td 1 ?_; intro A F
  refine td 2 ?_; intro A F
  refine td 3 ?_; intro A F
  refine td 4 ?_; intro A F
  refine td 5 ?_; intro A F
  refine td 6 ?_; intro A F
  refine td 7 ?_; intro A F
  refine td 8 ?_; intro A F
  refine td 9 ?_; intro A F
  refine td 10 ?_; intro A F
  refine td 11 ?_; intro A F
  refine td 12 ?_; intro A F
  refine td 13 ?_; intro A F
  refine td 14 ?_; intro A F
  let P11 : Pk := { (zk p.kind) with clean := p.clean }
  refine tst 15 [] ((Pk.cells P11 ((⟨none, 0, none, 0, none, 0, none, 0⟩ : Sl)))) ?_; intro W H9 hk
  clear H hk; have H := H9; clear H9
  refine td 16 ?_; intro A F
  let P12 : Pk := { P11 with keep := p.keep }
  refine tst 17 [] ((Pk.cells P12 ((⟨none, 0, none, 0, none, 0, none, 0⟩ : Sl)))) ?_; intro W H9 hk
  clear H hk; have H := H9; clear H9
  refine td 18 ?_; intro A F
  let s13 : Sl := { (⟨none, 0, none, 0, none, 0, none, 0⟩ : Sl) with pa := s.pa, pc := s.pc }
  let P14 : Pk := { P12 with props := p.props }
  refine tst 19 [] ((Pk.cells P14 s13)) ?_; intro W H9 hk
  clear H hk; have H := H9; clear H9
  refine td 20 ?_; intro A F
  let P15 : Pk := { P14 with client := p.client }
  refine tst 21 [] ((Pk.cells P15 s13)) ?_; intro W H9 hk
  clear H hk; have H := H9; clear H9
  refine td 22 ?_; intro A F
  let P16 : Pk := { P15 with hasWill := p.hasWill }
  refine tst 23 [] ((Pk.cells P16 s13)) ?_; intro W H9 hk
  clear H hk; have H := H9; clear H9
  refine td 24 ?_; intro A F
  let P17 : Pk := { P16 with hasUser := p.hasUser }
  refine tst 25 [] ((Pk.cells P17 s13)) ?_; intro W H9 hk
  clear H hk; have H := H9; clear H9
  refine td 26 ?_; intro A F
  let P18 : Pk := { P17 with hasPass := p.hasPass }
  refine tst 27 [] ((Pk.cells P18 s13)) ?_; intro W H9 hk
  clear H hk; have H := H9; clear H9
  refine wpAnyH_done (by kernel_rfl) ?_ _
  refine hK10 _ _ ?_
  refine wp_seq_k (fun K19 hK19 => ?_)
  refine wp_seq_k (fun K20 hK20 => gx_region ?_)
  iterate 2 (refine zd ?_; intro A F)
  refine wpList_nil (hK20 _ _ ?_)
  refine zc (fun hb21 => ?_) (fun hb21 => ?_)
  ·skip
   replace F := ((((F.nil.cons (F.g 8 _ rfl)).cons (F.g 3 _ rfl)).cons (F.g 2 _ rfl)).cons (F.g 1 _ rfl))
   refine wp_region_held_drew (S := fun wx => ∃ c9, Hp _ wx [⟨b5, 27, c9⟩, _, _]) (by kernel_rfl) ⟨_, H.drew⟩ (fun H9 => ?_); clear H9; replace H := H.drew
   generalize World.drew _ = W at *
   refine td 0 ?_; intro A F
   refine td 1 ?_; intro A F
   refine td 2 ?_; intro A F
   refine td 3 ?_; intro A F
   refine td 4 ?_; intro A F
   refine td 5 ?_; intro A F
   refine td 6 ?_; intro A F
   refine td 7 ?_; intro A F
   refine td 8 ?_; intro A F
   refine td 9 ?_; intro A F
   refine td 10 ?_; intro A F
   let P22 : Pk := { P18 with willQoS := p.willQoS }
   refine tst 11 [] ((Pk.cells P22 s13)) ?_; intro W H9 hk
   clear H hk; have H := H9; clear H9
   refine td 12 ?_; intro A F
   let P23 : Pk := { P22 with willRetain := p.willRetain }
   refine tst 13 [] ((Pk.cells P23 s13)) ?_; intro W H9 hk
   clear H hk; have H := H9; clear H9
   refine td 14 ?_; intro A F
   let s24 : Sl := { s13 with wa := s.wa, wc := s.wc }
   let P25 : Pk := { P23 with willProps := p.willProps }
   refine tst 15 [] ((Pk.cells P25 s24)) ?_; intro W H9 hk
   clear H hk; have H := H9; clear H9
   refine td 16 ?_; intro A F
   let P26 : Pk := { P25 with willTopic := p.willTopic }
   refine tst 17 [] ((Pk.cells P26 s24)) ?_; intro W H9 hk
   clear H hk; have H := H9; clear H9
   refine td 18 ?_; intro A F
   let P27 : Pk := { P26 with willLoad := p.willLoad }
   refine tst 19 [] ((Pk.cells P27 s24)) ?_; intro W H9 hk
   clear H hk; have H := H9; clear H9
   refine wpAnyH_done (by kernel_rfl) ?_ _
   refine hK19 _ _ ?_
   refine wp_seq_k (fun K28 hK28 => ?_)
   refine wp_seq_k (fun K29 hK29 => gx_region ?_)
   iterate 2 (refine zd ?_; intro A F)
   refine wpList_nil (hK29 _ _ ?_)
   refine zc (fun hb30 => ?_) (fun hb30 => ?_)
   ·skip
    replace F := ((((F.nil.cons (F.g 8 _ rfl)).cons (F.g 3 _ rfl)).cons (F.g 2 _ rfl)).cons (F.g 1 _ rfl))
    refine gx_region ?_
    iterate 3 (refine zd ?_; intro A F)
    let P31 : Pk := { P27 with user := p.user }
    refine zs [] ((Pk.cells P31 s24)) ?_; intro W H9 hk
    clear H hk; have H := H9; clear H9
    refine wpList_nil (hK28 _ _ ?_)
    refine wp_seq_k (fun K32 hK32 => gx_region ?_)
    iterate 2 (refine zd ?_; intro A F)
    refine wpList_nil (hK32 _ _ ?_)
    refine zc (fun hb33 => ?_) (fun hb33 => ?_)
    ·skip
     refine gx_region ?_
     iterate 3 (refine zd ?_; intro A F)
     let P34 : Pk := { P31 with pass := p.pass }
     refine zs [] ((Pk.cells P34 s24)) ?_; intro W H9 hk
     clear H hk; have H := H9; clear H9
     refine wpList_nil (hK6 _ _ ?_)
     refine wp_seq_k (fun K35 hK35 => gx_region ?_)
     refine hz_do F rfl (ex_load rfl (F.e rfl) (gl_agg ((Pk.cells P34 s24)) rfl (ga_27 _) (gs_27 _) (fun i => H.cs 0 rfl i))) ?_; intro A F
     obtain ⟨W9, hr, hB, hk⟩ := gx_storeAgg (P := Tryz.prog) (S := 27) (c := (Pk.cells P34 s24)) _ (H.b.at_ (j := 1) rfl).1 (gs_27 _) rfl (pk_one _ _)
     refine hz_st (ex_store rfl (F.e rfl) (F.e rfl) hr) ?_; clear hr; replace H : Hp _ _ [_, _, _] := Hp.turn [_] H hk hB; clear hk hB
     refine wpList_nil (hK35 _ _ ?_)
     refine gx_ret ?_
     refine (show bodyPost _ Tryz.f60 RR Exit.ret _ _ from ?_)
     exact bodyPost_ret (fn := Tryz.f60) (gx_resc rfl (F.g 2 _ rfl) (gl_agg ((Pk.cells P34 s24)) rfl (ga_27 _) (gs_27 _) (fun i => H.cs 1 rfl i))) F.d (⟨by unfold Pk.val; exact congrArg (fun x => Ending.returned (.agg x)) (congr (congrArg Pk.cells (by show { (zk p.kind) with clean := p.clean, keep := p.keep, props := p.props, client := p.client, hasWill := p.hasWill, hasUser := p.hasUser, hasPass := p.hasPass, willQoS := p.willQoS, willRetain := p.willRetain, willProps := p.willProps, willTopic := p.willTopic, willLoad := p.willLoad, user := p.user, pass := p.pass } = _; (try simp only [← Bool.not_eq_true, Bool.or_eq_true, Bool.and_eq_true, decide_eq_true_eq] at hb9 hb21 hb30 hb33); unfold bareP; simp only [hb9, hb21, hb30, hb33, ↓reduceIte, or_true, true_or, or_self, Int.reduceEq, or_false, false_or] <;> (first | done | rfl))) (by show { (⟨none, 0, none, 0, none, 0, none, 0⟩ : Sl) with pa := s.pa, pc := s.pc, wa := s.wa, wc := s.wc } = _; (try simp only [← Bool.not_eq_true, Bool.or_eq_true, Bool.and_eq_true, decide_eq_true_eq] at hb9 hb21 hb30 hb33); unfold ownSl; simp only [hb9, hb21, hb30, hb33, ↓reduceIte, or_true, true_or, or_self, Int.reduceEq, or_false, false_or] <;> (first | done | rfl))), H.k⟩)
    refine wp_skip (hK6 _ _ ?_)
    refine wp_seq_k (fun K36 hK36 => gx_region ?_)
    refine hz_do F rfl (ex_load rfl (F.e rfl) (gl_agg ((Pk.cells P31 s24)) rfl (ga_27 _) (gs_27 _) (fun i => H.cs 0 rfl i))) ?_; intro A F
    obtain ⟨W9, hr, hB, hk⟩ := gx_storeAgg (P := Tryz.prog) (S := 27) (c := (Pk.cells P31 s24)) _ (H.b.at_ (j := 1) rfl).1 (gs_27 _) rfl (pk_one _ _)
    refine hz_st (ex_store rfl (F.e rfl) (F.e rfl) hr) ?_; clear hr; replace H : Hp _ _ [_, _, _] := Hp.turn [_] H hk hB; clear hk hB
    refine wpList_nil (hK36 _ _ ?_)
    refine gx_ret ?_
    refine (show bodyPost _ Tryz.f60 RR Exit.ret _ _ from ?_)
    exact bodyPost_ret (fn := Tryz.f60) (gx_resc rfl (F.g 2 _ rfl) (gl_agg ((Pk.cells P31 s24)) rfl (ga_27 _) (gs_27 _) (fun i => H.cs 1 rfl i))) F.d (⟨by unfold Pk.val; exact congrArg (fun x => Ending.returned (.agg x)) (congr (congrArg Pk.cells (by show { (zk p.kind) with clean := p.clean, keep := p.keep, props := p.props, client := p.client, hasWill := p.hasWill, hasUser := p.hasUser, hasPass := p.hasPass, willQoS := p.willQoS, willRetain := p.willRetain, willProps := p.willProps, willTopic := p.willTopic, willLoad := p.willLoad, user := p.user } = _; (try simp only [← Bool.not_eq_true, Bool.or_eq_true, Bool.and_eq_true, decide_eq_true_eq] at hb9 hb21 hb30 hb33); unfold bareP; simp only [hb9, hb21, hb30, hb33, ↓reduceIte, or_true, true_or, or_self, Int.reduceEq, or_false, false_or] <;> (first | done | rfl))) (by show { (⟨none, 0, none, 0, none, 0, none, 0⟩ : Sl) with pa := s.pa, pc := s.pc, wa := s.wa, wc := s.wc } = _; (try simp only [← Bool.not_eq_true, Bool.or_eq_true, Bool.and_eq_true, decide_eq_true_eq] at hb9 hb21 hb30 hb33); unfold ownSl; simp only [hb9, hb21, hb30, hb33, ↓reduceIte, or_true, true_or, or_self, Int.reduceEq, or_false, false_or] <;> (first | done | rfl))), H.k⟩)
   replace F := ((((F.nil.cons (F.g 8 _ rfl)).cons (F.g 3 _ rfl)).cons (F.g 2 _ rfl)).cons (F.g 1 _ rfl))
   refine wp_skip (hK28 _ _ ?_)
   refine wp_seq_k (fun K37 hK37 => gx_region ?_)
   iterate 2 (refine zd ?_; intro A F)
   refine wpList_nil (hK37 _ _ ?_)
   refine zc (fun hb38 => ?_) (fun hb38 => ?_)
   ·skip
    refine gx_region ?_
    iterate 3 (refine zd ?_; intro A F)
    let P39 : Pk := { P27 with pass := p.pass }
    refine zs [] ((Pk.cells P39 s24)) ?_; intro W H9 hk
    clear H hk; have H := H9; clear H9
    refine wpList_nil (hK6 _ _ ?_)
    refine wp_seq_k (fun K40 hK40 => gx_region ?_)
    refine hz_do F rfl (ex_load rfl (F.e rfl) (gl_agg ((Pk.cells P39 s24)) rfl (ga_27 _) (gs_27 _) (fun i => H.cs 0 rfl i))) ?_; intro A F
    obtain ⟨W9, hr, hB, hk⟩ := gx_storeAgg (P := Tryz.prog) (S := 27) (c := (Pk.cells P39 s24)) _ (H.b.at_ (j := 1) rfl).1 (gs_27 _) rfl (pk_one _ _)
    refine hz_st (ex_store rfl (F.e rfl) (F.e rfl) hr) ?_; clear hr; replace H : Hp _ _ [_, _, _] := Hp.turn [_] H hk hB; clear hk hB
    refine wpList_nil (hK40 _ _ ?_)
    refine gx_ret ?_
    refine (show bodyPost _ Tryz.f60 RR Exit.ret _ _ from ?_)
    exact bodyPost_ret (fn := Tryz.f60) (gx_resc rfl (F.g 2 _ rfl) (gl_agg ((Pk.cells P39 s24)) rfl (ga_27 _) (gs_27 _) (fun i => H.cs 1 rfl i))) F.d (⟨by unfold Pk.val; exact congrArg (fun x => Ending.returned (.agg x)) (congr (congrArg Pk.cells (by show { (zk p.kind) with clean := p.clean, keep := p.keep, props := p.props, client := p.client, hasWill := p.hasWill, hasUser := p.hasUser, hasPass := p.hasPass, willQoS := p.willQoS, willRetain := p.willRetain, willProps := p.willProps, willTopic := p.willTopic, willLoad := p.willLoad, pass := p.pass } = _; (try simp only [← Bool.not_eq_true, Bool.or_eq_true, Bool.and_eq_true, decide_eq_true_eq] at hb9 hb21 hb30 hb38); unfold bareP; simp only [hb9, hb21, hb30, hb38, ↓reduceIte, or_true, true_or, or_self, Int.reduceEq, or_false, false_or] <;> (first | done | rfl))) (by show { (⟨none, 0, none, 0, none, 0, none, 0⟩ : Sl) with pa := s.pa, pc := s.pc, wa := s.wa, wc := s.wc } = _; (try simp only [← Bool.not_eq_true, Bool.or_eq_true, Bool.and_eq_true, decide_eq_true_eq] at hb9 hb21 hb30 hb38); unfold ownSl; simp only [hb9, hb21, hb30, hb38, ↓reduceIte, or_true, true_or, or_self, Int.reduceEq, or_false, false_or] <;> (first | done | rfl))), H.k⟩)
   refine wp_skip (hK6 _ _ ?_)
   refine wp_seq_k (fun K41 hK41 => gx_region ?_)
   refine hz_do F rfl (ex_load rfl (F.e rfl) (gl_agg ((Pk.cells P27 s24)) rfl (ga_27 _) (gs_27 _) (fun i => H.cs 0 rfl i))) ?_; intro A F
   obtain ⟨W9, hr, hB, hk⟩ := gx_storeAgg (P := Tryz.prog) (S := 27) (c := (Pk.cells P27 s24)) _ (H.b.at_ (j := 1) rfl).1 (gs_27 _) rfl (pk_one _ _)
   refine hz_st (ex_store rfl (F.e rfl) (F.e rfl) hr) ?_; clear hr; replace H : Hp _ _ [_, _, _] := Hp.turn [_] H hk hB; clear hk hB
   refine wpList_nil (hK41 _ _ ?_)
   refine gx_ret ?_
   refine (show bodyPost _ Tryz.f60 RR Exit.ret _ _ from ?_)
   exact bodyPost_ret (fn := Tryz.f60) (gx_resc rfl (F.g 2 _ rfl) (gl_agg ((Pk.cells P27 s24)) rfl (ga_27 _) (gs_27 _) (fun i => H.cs 1 rfl i))) F.d (⟨by unfold Pk.val; exact congrArg (fun x => Ending.returned (.agg x)) (congr (congrArg Pk.cells (by show { (zk p.kind) with clean := p.clean, keep := p.keep, props := p.props, client := p.client, hasWill := p.hasWill, hasUser := p.hasUser, hasPass := p.hasPass, willQoS := p.willQoS, willRetain := p.willRetain, willProps := p.willProps, willTopic := p.willTopic, willLoad := p.willLoad } = _; (try simp only [← Bool.not_eq_true, Bool.or_eq_true, Bool.and_eq_true, decide_eq_true_eq] at hb9 hb21 hb30 hb38); unfold bareP; simp only [hb9, hb21, hb30, hb38, ↓reduceIte, or_true, true_or, or_self, Int.reduceEq, or_false, false_or] <;> (first | done | rfl))) (by show { (⟨none, 0, none, 0, none, 0, none, 0⟩ : Sl) with pa := s.pa, pc := s.pc, wa := s.wa, wc := s.wc } = _; (try simp only [← Bool.not_eq_true, Bool.or_eq_true, Bool.and_eq_true, decide_eq_true_eq] at hb9 hb21 hb30 hb38); unfold ownSl; simp only [hb9, hb21, hb30, hb38, ↓reduceIte, or_true, true_or, or_self, Int.reduceEq, or_false, false_or] <;> (first | done | rfl))), H.k⟩)
  replace F := ((((F.nil.cons (F.g 8 _ rfl)).cons (F.g 3 _ rfl)).cons (F.g 2 _ rfl)).cons (F.g 1 _ rfl))
  refine wp_skip (hK19 _ _ ?_)
  refine wp_seq_k (fun K42 hK42 => ?_)
  refine wp_seq_k (fun K43 hK43 => gx_region ?_)
  iterate 2 (refine zd ?_; intro A F)
  refine wpList_nil (hK43 _ _ ?_)
  refine zc (fun hb44 => ?_) (fun hb44 => ?_)
  ·skip
   refine gx_region ?_
   iterate 3 (refine zd ?_; intro A F)
   let P45 : Pk := { P18 with user := p.user }
   refine zs [] ((Pk.cells P45 s13)) ?_; intro W H9 hk
   clear H hk; have H := H9; clear H9
   refine wpList_nil (hK42 _ _ ?_)
   refine wp_seq_k (fun K46 hK46 => gx_region ?_)
   iterate 2 (refine zd ?_; intro A F)
   refine wpList_nil (hK46 _ _ ?_)
   refine zc (fun hb47 => ?_) (fun hb47 => ?_)
   ·skip
    refine gx_region ?_
    iterate 3 (refine zd ?_; intro A F)
    let P48 : Pk := { P45 with pass := p.pass }
    refine zs [] ((Pk.cells P48 s13)) ?_; intro W H9 hk
    clear H hk; have H := H9; clear H9
    refine wpList_nil (hK6 _ _ ?_)
    refine wp_seq_k (fun K49 hK49 => gx_region ?_)
    refine hz_do F rfl (ex_load rfl (F.e rfl) (gl_agg ((Pk.cells P48 s13)) rfl (ga_27 _) (gs_27 _) (fun i => H.cs 0 rfl i))) ?_; intro A F
    obtain ⟨W9, hr, hB, hk⟩ := gx_storeAgg (P := Tryz.prog) (S := 27) (c := (Pk.cells P48 s13)) _ (H.b.at_ (j := 1) rfl).1 (gs_27 _) rfl (pk_one _ _)
    refine hz_st (ex_store rfl (F.e rfl) (F.e rfl) hr) ?_; clear hr; replace H : Hp _ _ [_, _, _] := Hp.turn [_] H hk hB; clear hk hB
    refine wpList_nil (hK49 _ _ ?_)
    refine gx_ret ?_
    refine (show bodyPost _ Tryz.f60 RR Exit.ret _ _ from ?_)
    exact bodyPost_ret (fn := Tryz.f60) (gx_resc rfl (F.g 2 _ rfl) (gl_agg ((Pk.cells P48 s13)) rfl (ga_27 _) (gs_27 _) (fun i => H.cs 1 rfl i))) F.d (⟨by unfold Pk.val; exact congrArg (fun x => Ending.returned (.agg x)) (congr (congrArg Pk.cells (by show { (zk p.kind) with clean := p.clean, keep := p.keep, props := p.props, client := p.client, hasWill := p.hasWill, hasUser := p.hasUser, hasPass := p.hasPass, user := p.user, pass := p.pass } = _; (try simp only [← Bool.not_eq_true, Bool.or_eq_true, Bool.and_eq_true, decide_eq_true_eq] at hb9 hb21 hb44 hb47); unfold bareP; simp only [hb9, hb21, hb44, hb47, ↓reduceIte, or_true, true_or, or_self, Int.reduceEq, or_false, false_or] <;> (first | done | rfl))) (by show { (⟨none, 0, none, 0, none, 0, none, 0⟩ : Sl) with pa := s.pa, pc := s.pc } = _; (try simp only [← Bool.not_eq_true, Bool.or_eq_true, Bool.and_eq_true, decide_eq_true_eq] at hb9 hb21 hb44 hb47); unfold ownSl; simp only [hb9, hb21, hb44, hb47, ↓reduceIte, or_true, true_or, or_self, Int.reduceEq, or_false, false_or] <;> (first | done | rfl))), H.k⟩)
   refine wp_skip (hK6 _ _ ?_)
   refine wp_seq_k (fun K50 hK50 => gx_region ?_)
   refine hz_do F rfl (ex_load rfl (F.e rfl) (gl_agg ((Pk.cells P45 s13)) rfl (ga_27 _) (gs_27 _) (fun i => H.cs 0 rfl i))) ?_; intro A F
   obtain ⟨W9, hr, hB, hk⟩ := gx_storeAgg (P := Tryz.prog) (S := 27) (c := (Pk.cells P45 s13)) _ (H.b.at_ (j := 1) rfl).1 (gs_27 _) rfl (pk_one _ _)
   refine hz_st (ex_store rfl (F.e rfl) (F.e rfl) hr) ?_; clear hr; replace H : Hp _ _ [_, _, _] := Hp.turn [_] H hk hB; clear hk hB
   refine wpList_nil (hK50 _ _ ?_)
   refine gx_ret ?_
   refine (show bodyPost _ Tryz.f60 RR Exit.ret _ _ from ?_)
   exact bodyPost_ret (fn := Tryz.f60) (gx_resc rfl (F.g 2 _ rfl) (gl_agg ((Pk.cells P45 s13)) rfl (ga_27 _) (gs_27 _) (fun i => H.cs 1 rfl i))) F.d (⟨by unfold Pk.val; exact congrArg (fun x => Ending.returned (.agg x)) (congr (congrArg Pk.cells (by show { (zk p.kind) with clean := p.clean, keep := p.keep, props := p.props, client := p.client, hasWill := p.hasWill, hasUser := p.hasUser, hasPass := p.hasPass, user := p.user } = _; (try simp only [← Bool.not_eq_true, Bool.or_eq_true, Bool.and_eq_true, decide_eq_true_eq] at hb9 hb21 hb44 hb47); unfold bareP; simp only [hb9, hb21, hb44, hb47, ↓reduceIte, or_true, true_or, or_self, Int.reduceEq, or_false, false_or] <;> (first | done | rfl))) (by show { (⟨none, 0, none, 0, none, 0, none, 0⟩ : Sl) with pa := s.pa, pc := s.pc } = _; (try simp only [← Bool.not_eq_true, Bool.or_eq_true, Bool.and_eq_true, decide_eq_true_eq] at hb9 hb21 hb44 hb47); unfold ownSl; simp only [hb9, hb21, hb44, hb47, ↓reduceIte, or_true, true_or, or_self, Int.reduceEq, or_false, false_or] <;> (first | done | rfl))), H.k⟩)
  refine wp_skip (hK42 _ _ ?_)
  refine wp_seq_k (fun K51 hK51 => gx_region ?_)
  iterate 2 (refine zd ?_; intro A F)
  refine wpList_nil (hK51 _ _ ?_)
  refine zc (fun hb52 => ?_) (fun hb52 => ?_)
  ·skip
   refine gx_region ?_
   iterate 3 (refine zd ?_; intro A F)
   let P53 : Pk := { P18 with pass := p.pass }
   refine zs [] ((Pk.cells P53 s13)) ?_; intro W H9 hk
   clear H hk; have H := H9; clear H9
   refine wpList_nil (hK6 _ _ ?_)
   refine wp_seq_k (fun K54 hK54 => gx_region ?_)
   refine hz_do F rfl (ex_load rfl (F.e rfl) (gl_agg ((Pk.cells P53 s13)) rfl (ga_27 _) (gs_27 _) (fun i => H.cs 0 rfl i))) ?_; intro A F
   obtain ⟨W9, hr, hB, hk⟩ := gx_storeAgg (P := Tryz.prog) (S := 27) (c := (Pk.cells P53 s13)) _ (H.b.at_ (j := 1) rfl).1 (gs_27 _) rfl (pk_one _ _)
   refine hz_st (ex_store rfl (F.e rfl) (F.e rfl) hr) ?_; clear hr; replace H : Hp _ _ [_, _, _] := Hp.turn [_] H hk hB; clear hk hB
   refine wpList_nil (hK54 _ _ ?_)
   refine gx_ret ?_
   refine (show bodyPost _ Tryz.f60 RR Exit.ret _ _ from ?_)
   exact bodyPost_ret (fn := Tryz.f60) (gx_resc rfl (F.g 2 _ rfl) (gl_agg ((Pk.cells P53 s13)) rfl (ga_27 _) (gs_27 _) (fun i => H.cs 1 rfl i))) F.d (⟨by unfold Pk.val; exact congrArg (fun x => Ending.returned (.agg x)) (congr (congrArg Pk.cells (by show { (zk p.kind) with clean := p.clean, keep := p.keep, props := p.props, client := p.client, hasWill := p.hasWill, hasUser := p.hasUser, hasPass := p.hasPass, pass := p.pass } = _; (try simp only [← Bool.not_eq_true, Bool.or_eq_true, Bool.and_eq_true, decide_eq_true_eq] at hb9 hb21 hb44 hb52); unfold bareP; simp only [hb9, hb21, hb44, hb52, ↓reduceIte, or_true, true_or, or_self, Int.reduceEq, or_false, false_or] <;> (first | done | rfl))) (by show { (⟨none, 0, none, 0, none, 0, none, 0⟩ : Sl) with pa := s.pa, pc := s.pc } = _; (try simp only [← Bool.not_eq_true, Bool.or_eq_true, Bool.and_eq_true, decide_eq_true_eq] at hb9 hb21 hb44 hb52); unfold ownSl; simp only [hb9, hb21, hb44, hb52, ↓reduceIte, or_true, true_or, or_self, Int.reduceEq, or_false, false_or] <;> (first | done | rfl))), H.k⟩)
  refine wp_skip (hK6 _ _ ?_)
  refine wp_seq_k (fun K55 hK55 => gx_region ?_)
  refine hz_do F rfl (ex_load rfl (F.e rfl) (gl_agg ((Pk.cells P18 s13)) rfl (ga_27 _) (gs_27 _) (fun i => H.cs 0 rfl i))) ?_; intro A F
  obtain ⟨W9, hr, hB, hk⟩ := gx_storeAgg (P := Tryz.prog) (S := 27) (c := (Pk.cells P18 s13)) _ (H.b.at_ (j := 1) rfl).1 (gs_27 _) rfl (pk_one _ _)
  refine hz_st (ex_store rfl (F.e rfl) (F.e rfl) hr) ?_; clear hr; replace H : Hp _ _ [_, _, _] := Hp.turn [_] H hk hB; clear hk hB
  refine wpList_nil (hK55 _ _ ?_)
  refine gx_ret ?_
  refine (show bodyPost _ Tryz.f60 RR Exit.ret _ _ from ?_)
  exact bodyPost_ret (fn := Tryz.f60) (gx_resc rfl (F.g 2 _ rfl) (gl_agg ((Pk.cells P18 s13)) rfl (ga_27 _) (gs_27 _) (fun i => H.cs 1 rfl i))) F.d (⟨by unfold Pk.val; exact congrArg (fun x => Ending.returned (.agg x)) (congr (congrArg Pk.cells (by show { (zk p.kind) with clean := p.clean, keep := p.keep, props := p.props, client := p.client, hasWill := p.hasWill, hasUser := p.hasUser, hasPass := p.hasPass } = _; (try simp only [← Bool.not_eq_true, Bool.or_eq_true, Bool.and_eq_true, decide_eq_true_eq] at hb9 hb21 hb44 hb52); unfold bareP; simp only [hb9, hb21, hb44, hb52, ↓reduceIte, or_true, true_or, or_self, Int.reduceEq, or_false, false_or] <;> (first | done | rfl))) (by show { (⟨none, 0, none, 0, none, 0, none, 0⟩ : Sl) with pa := s.pa, pc := s.pc } = _; (try simp only [← Bool.not_eq_true, Bool.or_eq_true, Bool.and_eq_true, decide_eq_true_eq] at hb9 hb21 hb44 hb52); unfold ownSl; simp only [hb9, hb21, hb44, hb52, ↓reduceIte, or_true, true_or, or_self, Int.reduceEq, or_false, false_or] <;> (first | done | rfl))), H.k⟩)
 refine wp_seq_k (fun K56 hK56 => gx_region ?_)
 refine zb (rn_eql) ?_; intro A F
 refine zd ?_; intro A F
 refine wpList_nil (hK56 _ _ ?_)
 refine zc (fun hb57 => ?_) (fun hb57 => ?_)
 ·skip
  refine wp_region_held_drew (S := fun wx => ∃ c9, Hp _ wx [⟨b5, 27, c9⟩, _, _]) (by kernel_rfl) ⟨_, H.drew⟩ (fun H9 => ?_); clear H9; replace H := H.drew
  generalize World.drew _ = W at *
  refine td 0 ?_; intro A F
  refine td 1 ?_; intro A F
  refine td 2 ?_; intro A F
  refine td 3 ?_; intro A F
  refine td 4 ?_; intro A F
  refine td 5 ?_; intro A F
  refine td 6 ?_; intro A F
  let P58 : Pk := { (zk p.kind) with present := p.present }
  refine tst 7 [] ((Pk.cells P58 ((⟨none, 0, none, 0, none, 0, none, 0⟩ : Sl)))) ?_; intro W H9 hk
  clear H hk; have H := H9; clear H9
  refine td 8 ?_; intro A F
  let P59 : Pk := { P58 with code := p.code }
  refine tst 9 [] ((Pk.cells P59 ((⟨none, 0, none, 0, none, 0, none, 0⟩ : Sl)))) ?_; intro W H9 hk
  clear H hk; have H := H9; clear H9
  refine td 10 ?_; intro A F
  let s60 : Sl := { (⟨none, 0, none, 0, none, 0, none, 0⟩ : Sl) with pa := s.pa, pc := s.pc }
  let P61 : Pk := { P59 with props := p.props }
  refine tst 11 [] ((Pk.cells P61 s60)) ?_; intro W H9 hk
  clear H hk; have H := H9; clear H9
  refine wpAnyH_done (by kernel_rfl) ?_ _
  refine hK6 _ _ ?_
  refine wp_seq_k (fun K62 hK62 => gx_region ?_)
  refine hz_do F rfl (ex_load rfl (F.e rfl) (gl_agg ((Pk.cells P61 s60)) rfl (ga_27 _) (gs_27 _) (fun i => H.cs 0 rfl i))) ?_; intro A F
  obtain ⟨W9, hr, hB, hk⟩ := gx_storeAgg (P := Tryz.prog) (S := 27) (c := (Pk.cells P61 s60)) _ (H.b.at_ (j := 1) rfl).1 (gs_27 _) rfl (pk_one _ _)
  refine hz_st (ex_store rfl (F.e rfl) (F.e rfl) hr) ?_; clear hr; replace H : Hp _ _ [_, _, _] := Hp.turn [_] H hk hB; clear hk hB
  refine wpList_nil (hK62 _ _ ?_)
  refine gx_ret ?_
  refine (show bodyPost _ Tryz.f60 RR Exit.ret _ _ from ?_)
  exact bodyPost_ret (fn := Tryz.f60) (gx_resc rfl (F.g 2 _ rfl) (gl_agg ((Pk.cells P61 s60)) rfl (ga_27 _) (gs_27 _) (fun i => H.cs 1 rfl i))) F.d (⟨by unfold Pk.val; exact congrArg (fun x => Ending.returned (.agg x)) (congr (congrArg Pk.cells (by show { (zk p.kind) with present := p.present, code := p.code, props := p.props } = _; (try simp only [← Bool.not_eq_true, Bool.or_eq_true, Bool.and_eq_true, decide_eq_true_eq] at hb9 hb57); unfold bareP; simp only [hb9, hb57, ↓reduceIte, or_true, true_or, or_self, Int.reduceEq, or_false, false_or] <;> (first | done | rfl))) (by show { (⟨none, 0, none, 0, none, 0, none, 0⟩ : Sl) with pa := s.pa, pc := s.pc } = _; (try simp only [← Bool.not_eq_true, Bool.or_eq_true, Bool.and_eq_true, decide_eq_true_eq] at hb9 hb57); unfold ownSl; simp only [hb9, hb57, ↓reduceIte, or_true, true_or, or_self, Int.reduceEq, or_false, false_or] <;> (first | done | rfl))), H.k⟩)
 refine wp_seq_k (fun K63 hK63 => gx_region ?_)
 refine zb (rn_eql) ?_; intro A F
 refine zd ?_; intro A F
 refine wpList_nil (hK63 _ _ ?_)
 refine zc (fun hb64 => ?_) (fun hb64 => ?_)
 ·skip
  refine wp_region_held_drew (S := fun wx => ∃ c9, Hp _ wx [⟨b5, 27, c9⟩, _, _]) (by kernel_rfl) ⟨_, H.drew⟩ (fun H9 => ?_); clear H9; replace H := H.drew
  generalize World.drew _ = W at *
  refine td 0 ?_; intro A F
  refine td 1 ?_; intro A F
  refine td 2 ?_; intro A F
  refine td 3 ?_; intro A F
  refine td 4 ?_; intro A F
  refine td 5 ?_; intro A F
  refine td 6 ?_; intro A F
  refine td 7 ?_; intro A F
  refine td 8 ?_; intro A F
  refine td 9 ?_; intro A F
  refine td 10 ?_; intro A F
  refine td 11 ?_; intro A F
  refine td 12 ?_; intro A F
  refine td 13 ?_; intro A F
  refine td 14 ?_; intro A F
  let P65 : Pk := { (zk p.kind) with dup := p.dup }
  refine tst 15 [] ((Pk.cells P65 ((⟨none, 0, none, 0, none, 0, none, 0⟩ : Sl)))) ?_; intro W H9 hk
  clear H hk; have H := H9; clear H9
  refine td 16 ?_; intro A F
  let P66 : Pk := { P65 with qos := p.qos }
  refine tst 17 [] ((Pk.cells P66 ((⟨none, 0, none, 0, none, 0, none, 0⟩ : Sl)))) ?_; intro W H9 hk
  clear H hk; have H := H9; clear H9
  refine td 18 ?_; intro A F
  let P67 : Pk := { P66 with retain := p.retain }
  refine tst 19 [] ((Pk.cells P67 ((⟨none, 0, none, 0, none, 0, none, 0⟩ : Sl)))) ?_; intro W H9 hk
  clear H hk; have H := H9; clear H9
  refine td 20 ?_; intro A F
  let P68 : Pk := { P67 with topic := p.topic }
  refine tst 21 [] ((Pk.cells P68 ((⟨none, 0, none, 0, none, 0, none, 0⟩ : Sl)))) ?_; intro W H9 hk
  clear H hk; have H := H9; clear H9
  refine td 22 ?_; intro A F
  let P69 : Pk := { P68 with id := p.id }
  refine tst 23 [] ((Pk.cells P69 ((⟨none, 0, none, 0, none, 0, none, 0⟩ : Sl)))) ?_; intro W H9 hk
  clear H hk; have H := H9; clear H9
  refine td 24 ?_; intro A F
  let s70 : Sl := { (⟨none, 0, none, 0, none, 0, none, 0⟩ : Sl) with pa := s.pa, pc := s.pc }
  let P71 : Pk := { P69 with props := p.props }
  refine tst 25 [] ((Pk.cells P71 s70)) ?_; intro W H9 hk
  clear H hk; have H := H9; clear H9
  refine td 26 ?_; intro A F
  let P72 : Pk := { P71 with load := p.load }
  refine tst 27 [] ((Pk.cells P72 s70)) ?_; intro W H9 hk
  clear H hk; have H := H9; clear H9
  refine wpAnyH_done (by kernel_rfl) ?_ _
  refine hK6 _ _ ?_
  refine wp_seq_k (fun K73 hK73 => gx_region ?_)
  refine hz_do F rfl (ex_load rfl (F.e rfl) (gl_agg ((Pk.cells P72 s70)) rfl (ga_27 _) (gs_27 _) (fun i => H.cs 0 rfl i))) ?_; intro A F
  obtain ⟨W9, hr, hB, hk⟩ := gx_storeAgg (P := Tryz.prog) (S := 27) (c := (Pk.cells P72 s70)) _ (H.b.at_ (j := 1) rfl).1 (gs_27 _) rfl (pk_one _ _)
  refine hz_st (ex_store rfl (F.e rfl) (F.e rfl) hr) ?_; clear hr; replace H : Hp _ _ [_, _, _] := Hp.turn [_] H hk hB; clear hk hB
  refine wpList_nil (hK73 _ _ ?_)
  refine gx_ret ?_
  refine (show bodyPost _ Tryz.f60 RR Exit.ret _ _ from ?_)
  exact bodyPost_ret (fn := Tryz.f60) (gx_resc rfl (F.g 2 _ rfl) (gl_agg ((Pk.cells P72 s70)) rfl (ga_27 _) (gs_27 _) (fun i => H.cs 1 rfl i))) F.d (⟨by unfold Pk.val; exact congrArg (fun x => Ending.returned (.agg x)) (congr (congrArg Pk.cells (by show { (zk p.kind) with dup := p.dup, qos := p.qos, retain := p.retain, topic := p.topic, id := p.id, props := p.props, load := p.load } = _; (try simp only [← Bool.not_eq_true, Bool.or_eq_true, Bool.and_eq_true, decide_eq_true_eq] at hb9 hb57 hb64); unfold bareP; simp only [hb9, hb57, hb64, ↓reduceIte, or_true, true_or, or_self, Int.reduceEq, or_false, false_or] <;> (first | done | rfl))) (by show { (⟨none, 0, none, 0, none, 0, none, 0⟩ : Sl) with pa := s.pa, pc := s.pc } = _; (try simp only [← Bool.not_eq_true, Bool.or_eq_true, Bool.and_eq_true, decide_eq_true_eq] at hb9 hb57 hb64); unfold ownSl; simp only [hb9, hb57, hb64, ↓reduceIte, or_true, true_or, or_self, Int.reduceEq, or_false, false_or] <;> (first | done | rfl))), H.k⟩)
 refine wp_seq_k (fun K74 hK74 => ?_)
 refine wp_seq_k (fun K75 hK75 => gx_region ?_)
 refine zb (rn_eql) ?_; intro A F
 refine zd ?_; intro A F
 refine wpList_nil (hK75 _ _ ?_)
 refine zc (fun hb76 => ?_) (fun hb76 => ?_)
 ·skip
  refine wp_skip (hK74 _ _ ?_)
  refine wp_cond_true ((F.e rfl).trans (congrArg Value.bool hb76)) ?_
  refine wp_region_held_drew (S := fun wx => ∃ c9, Hp _ wx [⟨b5, 27, c9⟩, _, _]) (by kernel_rfl) ⟨_, H.drew⟩ (fun H9 => ?_); clear H9; replace H := H.drew
  generalize World.drew _ = W at *
  refine td 0 ?_; intro A F
  refine td 1 ?_; intro A F
  refine td 2 ?_; intro A F
  refine td 3 ?_; intro A F
  refine td 4 ?_; intro A F
  refine td 5 ?_; intro A F
  refine td 6 ?_; intro A F
  let P77 : Pk := { (zk p.kind) with id := p.id }
  refine tst 7 [] ((Pk.cells P77 ((⟨none, 0, none, 0, none, 0, none, 0⟩ : Sl)))) ?_; intro W H9 hk
  clear H hk; have H := H9; clear H9
  refine td 8 ?_; intro A F
  let P78 : Pk := { P77 with code := p.code }
  refine tst 9 [] ((Pk.cells P78 ((⟨none, 0, none, 0, none, 0, none, 0⟩ : Sl)))) ?_; intro W H9 hk
  clear H hk; have H := H9; clear H9
  refine td 10 ?_; intro A F
  let s79 : Sl := { (⟨none, 0, none, 0, none, 0, none, 0⟩ : Sl) with pa := s.pa, pc := s.pc }
  let P80 : Pk := { P78 with props := p.props }
  refine tst 11 [] ((Pk.cells P80 s79)) ?_; intro W H9 hk
  clear H hk; have H := H9; clear H9
  refine wpAnyH_done (by kernel_rfl) ?_ _
  refine hK6 _ _ ?_
  refine wp_seq_k (fun K81 hK81 => gx_region ?_)
  refine hz_do F rfl (ex_load rfl (F.e rfl) (gl_agg ((Pk.cells P80 s79)) rfl (ga_27 _) (gs_27 _) (fun i => H.cs 0 rfl i))) ?_; intro A F
  obtain ⟨W9, hr, hB, hk⟩ := gx_storeAgg (P := Tryz.prog) (S := 27) (c := (Pk.cells P80 s79)) _ (H.b.at_ (j := 1) rfl).1 (gs_27 _) rfl (pk_one _ _)
  refine hz_st (ex_store rfl (F.e rfl) (F.e rfl) hr) ?_; clear hr; replace H : Hp _ _ [_, _, _] := Hp.turn [_] H hk hB; clear hk hB
  refine wpList_nil (hK81 _ _ ?_)
  refine gx_ret ?_
  refine (show bodyPost _ Tryz.f60 RR Exit.ret _ _ from ?_)
  exact bodyPost_ret (fn := Tryz.f60) (gx_resc rfl (F.g 2 _ rfl) (gl_agg ((Pk.cells P80 s79)) rfl (ga_27 _) (gs_27 _) (fun i => H.cs 1 rfl i))) F.d (⟨by unfold Pk.val; exact congrArg (fun x => Ending.returned (.agg x)) (congr (congrArg Pk.cells (by show { (zk p.kind) with id := p.id, code := p.code, props := p.props } = _; (try simp only [← Bool.not_eq_true, Bool.or_eq_true, Bool.and_eq_true, decide_eq_true_eq] at hb9 hb57 hb64 hb76); unfold bareP; simp only [hb9, hb57, hb64, hb76, ↓reduceIte, or_true, true_or, or_self, Int.reduceEq, or_false, false_or] <;> (first | done | rfl))) (by show { (⟨none, 0, none, 0, none, 0, none, 0⟩ : Sl) with pa := s.pa, pc := s.pc } = _; (try simp only [← Bool.not_eq_true, Bool.or_eq_true, Bool.and_eq_true, decide_eq_true_eq] at hb9 hb57 hb64 hb76); unfold ownSl; simp only [hb9, hb57, hb64, hb76, ↓reduceIte, or_true, true_or, or_self, Int.reduceEq, or_false, false_or] <;> (first | done | rfl))), H.k⟩)
 refine wp_seq_k (fun K82 hK82 => gx_region ?_)
 refine zb (rn_eql) ?_; intro A F
 refine zd ?_; intro A F
 refine wpList_nil (hK82 _ _ ?_)
 refine zc (fun hb83 => ?_) (fun hb83 => ?_)
 ·skip
  replace F := (((((F.nil.cons (F.g 93 _ rfl)).cons (F.g 8 _ rfl)).cons (F.g 3 _ rfl)).cons (F.g 2 _ rfl)).cons (F.g 1 _ rfl))
  refine wp_skip (hK74 _ _ ?_)
  refine wp_cond_true ((F.e rfl).trans (congrArg Value.bool hb83)) ?_
  refine wp_region_held_drew (S := fun wx => ∃ c9, Hp _ wx [⟨b5, 27, c9⟩, _, _]) (by kernel_rfl) ⟨_, H.drew⟩ (fun H9 => ?_); clear H9; replace H := H.drew
  generalize World.drew _ = W at *
  refine td 0 ?_; intro A F
  refine td 1 ?_; intro A F
  refine td 2 ?_; intro A F
  refine td 3 ?_; intro A F
  refine td 4 ?_; intro A F
  refine td 5 ?_; intro A F
  refine td 6 ?_; intro A F
  let P84 : Pk := { (zk p.kind) with id := p.id }
  refine tst 7 [] ((Pk.cells P84 ((⟨none, 0, none, 0, none, 0, none, 0⟩ : Sl)))) ?_; intro W H9 hk
  clear H hk; have H := H9; clear H9
  refine td 8 ?_; intro A F
  let P85 : Pk := { P84 with code := p.code }
  refine tst 9 [] ((Pk.cells P85 ((⟨none, 0, none, 0, none, 0, none, 0⟩ : Sl)))) ?_; intro W H9 hk
  clear H hk; have H := H9; clear H9
  refine td 10 ?_; intro A F
  let s86 : Sl := { (⟨none, 0, none, 0, none, 0, none, 0⟩ : Sl) with pa := s.pa, pc := s.pc }
  let P87 : Pk := { P85 with props := p.props }
  refine tst 11 [] ((Pk.cells P87 s86)) ?_; intro W H9 hk
  clear H hk; have H := H9; clear H9
  refine wpAnyH_done (by kernel_rfl) ?_ _
  refine hK6 _ _ ?_
  refine wp_seq_k (fun K88 hK88 => gx_region ?_)
  refine hz_do F rfl (ex_load rfl (F.e rfl) (gl_agg ((Pk.cells P87 s86)) rfl (ga_27 _) (gs_27 _) (fun i => H.cs 0 rfl i))) ?_; intro A F
  obtain ⟨W9, hr, hB, hk⟩ := gx_storeAgg (P := Tryz.prog) (S := 27) (c := (Pk.cells P87 s86)) _ (H.b.at_ (j := 1) rfl).1 (gs_27 _) rfl (pk_one _ _)
  refine hz_st (ex_store rfl (F.e rfl) (F.e rfl) hr) ?_; clear hr; replace H : Hp _ _ [_, _, _] := Hp.turn [_] H hk hB; clear hk hB
  refine wpList_nil (hK88 _ _ ?_)
  refine gx_ret ?_
  refine (show bodyPost _ Tryz.f60 RR Exit.ret _ _ from ?_)
  exact bodyPost_ret (fn := Tryz.f60) (gx_resc rfl (F.g 2 _ rfl) (gl_agg ((Pk.cells P87 s86)) rfl (ga_27 _) (gs_27 _) (fun i => H.cs 1 rfl i))) F.d (⟨by unfold Pk.val; exact congrArg (fun x => Ending.returned (.agg x)) (congr (congrArg Pk.cells (by show { (zk p.kind) with id := p.id, code := p.code, props := p.props } = _; (try simp only [← Bool.not_eq_true, Bool.or_eq_true, Bool.and_eq_true, decide_eq_true_eq] at hb9 hb57 hb64 hb76 hb83); unfold bareP; simp only [hb9, hb57, hb64, hb76, hb83, ↓reduceIte, or_true, true_or, or_self, Int.reduceEq, or_false, false_or] <;> (first | done | rfl))) (by show { (⟨none, 0, none, 0, none, 0, none, 0⟩ : Sl) with pa := s.pa, pc := s.pc } = _; (try simp only [← Bool.not_eq_true, Bool.or_eq_true, Bool.and_eq_true, decide_eq_true_eq] at hb9 hb57 hb64 hb76 hb83); unfold ownSl; simp only [hb9, hb57, hb64, hb76, hb83, ↓reduceIte, or_true, true_or, or_self, Int.reduceEq, or_false, false_or] <;> (first | done | rfl))), H.k⟩)
 replace F := (((((F.nil.cons (F.g 93 _ rfl)).cons (F.g 8 _ rfl)).cons (F.g 3 _ rfl)).cons (F.g 2 _ rfl)).cons (F.g 1 _ rfl))
 refine wp_seq_k (fun K89 hK89 => gx_region ?_)
 refine zb (rn_eql) ?_; intro A F
 refine zd ?_; intro A F
 refine wpList_nil (hK89 _ _ ?_)
 refine zc (fun hb90 => ?_) (fun hb90 => ?_)
 ·skip
  refine wp_skip (hK74 _ _ ?_)
  refine wp_cond_true ((F.e rfl).trans (congrArg Value.bool hb90)) ?_
  refine wp_region_held_drew (S := fun wx => ∃ c9, Hp _ wx [⟨b5, 27, c9⟩, _, _]) (by kernel_rfl) ⟨_, H.drew⟩ (fun H9 => ?_); clear H9; replace H := H.drew
  generalize World.drew _ = W at *
  refine td 0 ?_; intro A F
  refine td 1 ?_; intro A F
  refine td 2 ?_; intro A F
  refine td 3 ?_; intro A F
  refine td 4 ?_; intro A F
  refine td 5 ?_; intro A F
  refine td 6 ?_; intro A F
  let P91 : Pk := { (zk p.kind) with id := p.id }
  refine tst 7 [] ((Pk.cells P91 ((⟨none, 0, none, 0, none, 0, none, 0⟩ : Sl)))) ?_; intro W H9 hk
  clear H hk; have H := H9; clear H9
  refine td 8 ?_; intro A F
  let P92 : Pk := { P91 with code := p.code }
  refine tst 9 [] ((Pk.cells P92 ((⟨none, 0, none, 0, none, 0, none, 0⟩ : Sl)))) ?_; intro W H9 hk
  clear H hk; have H := H9; clear H9
  refine td 10 ?_; intro A F
  let s93 : Sl := { (⟨none, 0, none, 0, none, 0, none, 0⟩ : Sl) with pa := s.pa, pc := s.pc }
  let P94 : Pk := { P92 with props := p.props }
  refine tst 11 [] ((Pk.cells P94 s93)) ?_; intro W H9 hk
  clear H hk; have H := H9; clear H9
  refine wpAnyH_done (by kernel_rfl) ?_ _
  refine hK6 _ _ ?_
  refine wp_seq_k (fun K95 hK95 => gx_region ?_)
  refine hz_do F rfl (ex_load rfl (F.e rfl) (gl_agg ((Pk.cells P94 s93)) rfl (ga_27 _) (gs_27 _) (fun i => H.cs 0 rfl i))) ?_; intro A F
  obtain ⟨W9, hr, hB, hk⟩ := gx_storeAgg (P := Tryz.prog) (S := 27) (c := (Pk.cells P94 s93)) _ (H.b.at_ (j := 1) rfl).1 (gs_27 _) rfl (pk_one _ _)
  refine hz_st (ex_store rfl (F.e rfl) (F.e rfl) hr) ?_; clear hr; replace H : Hp _ _ [_, _, _] := Hp.turn [_] H hk hB; clear hk hB
  refine wpList_nil (hK95 _ _ ?_)
  refine gx_ret ?_
  refine (show bodyPost _ Tryz.f60 RR Exit.ret _ _ from ?_)
  exact bodyPost_ret (fn := Tryz.f60) (gx_resc rfl (F.g 2 _ rfl) (gl_agg ((Pk.cells P94 s93)) rfl (ga_27 _) (gs_27 _) (fun i => H.cs 1 rfl i))) F.d (⟨by unfold Pk.val; exact congrArg (fun x => Ending.returned (.agg x)) (congr (congrArg Pk.cells (by show { (zk p.kind) with id := p.id, code := p.code, props := p.props } = _; (try simp only [← Bool.not_eq_true, Bool.or_eq_true, Bool.and_eq_true, decide_eq_true_eq] at hb9 hb57 hb64 hb76 hb83 hb90); unfold bareP; simp only [hb9, hb57, hb64, hb76, hb83, hb90, ↓reduceIte, or_true, true_or, or_self, Int.reduceEq, or_false, false_or] <;> (first | done | rfl))) (by show { (⟨none, 0, none, 0, none, 0, none, 0⟩ : Sl) with pa := s.pa, pc := s.pc } = _; (try simp only [← Bool.not_eq_true, Bool.or_eq_true, Bool.and_eq_true, decide_eq_true_eq] at hb9 hb57 hb64 hb76 hb83 hb90); unfold ownSl; simp only [hb9, hb57, hb64, hb76, hb83, hb90, ↓reduceIte, or_true, true_or, or_self, Int.reduceEq, or_false, false_or] <;> (first | done | rfl))), H.k⟩)
 refine gx_region ?_
 refine zb (rn_eql) ?_; intro A F
 refine zd ?_; intro A F
 refine wpList_nil (hK74 _ _ ?_)
 refine zc (fun hb96 => ?_) (fun hb96 => ?_)
 ·skip
  refine wp_region_held_drew (S := fun wx => ∃ c9, Hp _ wx [⟨b5, 27, c9⟩, _, _]) (by kernel_rfl) ⟨_, H.drew⟩ (fun H9 => ?_); clear H9; replace H := H.drew
  generalize World.drew _ = W at *
  refine td 0 ?_; intro A F
  refine td 1 ?_; intro A F
  refine td 2 ?_; intro A F
  refine td 3 ?_; intro A F
  refine td 4 ?_; intro A F
  refine td 5 ?_; intro A F
  refine td 6 ?_; intro A F
  let P97 : Pk := { (zk p.kind) with id := p.id }
  refine tst 7 [] ((Pk.cells P97 ((⟨none, 0, none, 0, none, 0, none, 0⟩ : Sl)))) ?_; intro W H9 hk
  clear H hk; have H := H9; clear H9
  refine td 8 ?_; intro A F
  let P98 : Pk := { P97 with code := p.code }
  refine tst 9 [] ((Pk.cells P98 ((⟨none, 0, none, 0, none, 0, none, 0⟩ : Sl)))) ?_; intro W H9 hk
  clear H hk; have H := H9; clear H9
  refine td 10 ?_; intro A F
  let s99 : Sl := { (⟨none, 0, none, 0, none, 0, none, 0⟩ : Sl) with pa := s.pa, pc := s.pc }
  let P100 : Pk := { P98 with props := p.props }
  refine tst 11 [] ((Pk.cells P100 s99)) ?_; intro W H9 hk
  clear H hk; have H := H9; clear H9
  refine wpAnyH_done (by kernel_rfl) ?_ _
  refine hK6 _ _ ?_
  refine wp_seq_k (fun K101 hK101 => gx_region ?_)
  refine hz_do F rfl (ex_load rfl (F.e rfl) (gl_agg ((Pk.cells P100 s99)) rfl (ga_27 _) (gs_27 _) (fun i => H.cs 0 rfl i))) ?_; intro A F
  obtain ⟨W9, hr, hB, hk⟩ := gx_storeAgg (P := Tryz.prog) (S := 27) (c := (Pk.cells P100 s99)) _ (H.b.at_ (j := 1) rfl).1 (gs_27 _) rfl (pk_one _ _)
  refine hz_st (ex_store rfl (F.e rfl) (F.e rfl) hr) ?_; clear hr; replace H : Hp _ _ [_, _, _] := Hp.turn [_] H hk hB; clear hk hB
  refine wpList_nil (hK101 _ _ ?_)
  refine gx_ret ?_
  refine (show bodyPost _ Tryz.f60 RR Exit.ret _ _ from ?_)
  exact bodyPost_ret (fn := Tryz.f60) (gx_resc rfl (F.g 2 _ rfl) (gl_agg ((Pk.cells P100 s99)) rfl (ga_27 _) (gs_27 _) (fun i => H.cs 1 rfl i))) F.d (⟨by unfold Pk.val; exact congrArg (fun x => Ending.returned (.agg x)) (congr (congrArg Pk.cells (by show { (zk p.kind) with id := p.id, code := p.code, props := p.props } = _; (try simp only [← Bool.not_eq_true, Bool.or_eq_true, Bool.and_eq_true, decide_eq_true_eq] at hb9 hb57 hb64 hb76 hb83 hb90 hb96); unfold bareP; simp only [hb9, hb57, hb64, hb76, hb83, hb90, hb96, ↓reduceIte, or_true, true_or, or_self, Int.reduceEq, or_false, false_or] <;> (first | done | rfl))) (by show { (⟨none, 0, none, 0, none, 0, none, 0⟩ : Sl) with pa := s.pa, pc := s.pc } = _; (try simp only [← Bool.not_eq_true, Bool.or_eq_true, Bool.and_eq_true, decide_eq_true_eq] at hb9 hb57 hb64 hb76 hb83 hb90 hb96); unfold ownSl; simp only [hb9, hb57, hb64, hb76, hb83, hb90, hb96, ↓reduceIte, or_true, true_or, or_self, Int.reduceEq, or_false, false_or] <;> (first | done | rfl))), H.k⟩)
 refine wp_seq_k (fun K102 hK102 => ?_)
 refine wp_seq_k (fun K103 hK103 => gx_region ?_)
 refine zb (rn_eql) ?_; intro A F
 refine zd ?_; intro A F
 refine wpList_nil (hK103 _ _ ?_)
 refine zc (fun hb104 => ?_) (fun hb104 => ?_)
 ·skip
  refine wp_skip (hK102 _ _ ?_)
  refine wp_cond_true ((F.e rfl).trans (congrArg Value.bool hb104)) ?_
  refine wp_region_held_drew (S := fun wx => ∃ c9, Hp _ wx [⟨b5, 27, c9⟩, _, _]) (by kernel_rfl) ⟨_, H.drew⟩ (fun H9 => ?_); clear H9; replace H := H.drew
  generalize World.drew _ = W at *
  refine td 0 ?_; intro A F
  refine td 1 ?_; intro A F
  refine td 2 ?_; intro A F
  refine td 3 ?_; intro A F
  refine td 4 ?_; intro A F
  refine td 5 ?_; intro A F
  refine td 6 ?_; intro A F
  let P105 : Pk := { (zk p.kind) with id := p.id }
  refine tst 7 [] ((Pk.cells P105 ((⟨none, 0, none, 0, none, 0, none, 0⟩ : Sl)))) ?_; intro W H9 hk
  clear H hk; have H := H9; clear H9
  refine td 8 ?_; intro A F
  let s106 : Sl := { (⟨none, 0, none, 0, none, 0, none, 0⟩ : Sl) with pa := s.pa, pc := s.pc }
  let P107 : Pk := { P105 with props := p.props }
  refine tst 9 [] ((Pk.cells P107 s106)) ?_; intro W H9 hk
  clear H hk; have H := H9; clear H9
  refine td 10 ?_; intro A F
  let s108 : Sl := { s106 with fa := s.fa, fc := s.fc }
  let P109 : Pk := { P107 with filters := p.filters }
  refine tst 11 [] ((Pk.cells P109 s108)) ?_; intro W H9 hk
  clear H hk; have H := H9; clear H9
  refine wpAnyH_done (by kernel_rfl) ?_ _
  refine hK6 _ _ ?_
  refine wp_seq_k (fun K110 hK110 => gx_region ?_)
  refine hz_do F rfl (ex_load rfl (F.e rfl) (gl_agg ((Pk.cells P109 s108)) rfl (ga_27 _) (gs_27 _) (fun i => H.cs 0 rfl i))) ?_; intro A F
  obtain ⟨W9, hr, hB, hk⟩ := gx_storeAgg (P := Tryz.prog) (S := 27) (c := (Pk.cells P109 s108)) _ (H.b.at_ (j := 1) rfl).1 (gs_27 _) rfl (pk_one _ _)
  refine hz_st (ex_store rfl (F.e rfl) (F.e rfl) hr) ?_; clear hr; replace H : Hp _ _ [_, _, _] := Hp.turn [_] H hk hB; clear hk hB
  refine wpList_nil (hK110 _ _ ?_)
  refine gx_ret ?_
  refine (show bodyPost _ Tryz.f60 RR Exit.ret _ _ from ?_)
  exact bodyPost_ret (fn := Tryz.f60) (gx_resc rfl (F.g 2 _ rfl) (gl_agg ((Pk.cells P109 s108)) rfl (ga_27 _) (gs_27 _) (fun i => H.cs 1 rfl i))) F.d (⟨by unfold Pk.val; exact congrArg (fun x => Ending.returned (.agg x)) (congr (congrArg Pk.cells (by show { (zk p.kind) with id := p.id, props := p.props, filters := p.filters } = _; (try simp only [← Bool.not_eq_true, Bool.or_eq_true, Bool.and_eq_true, decide_eq_true_eq] at hb9 hb57 hb64 hb76 hb83 hb90 hb96 hb104); unfold bareP; simp only [hb9, hb57, hb64, hb76, hb83, hb90, hb96, hb104, ↓reduceIte, or_true, true_or, or_self, Int.reduceEq, or_false, false_or] <;> (first | done | rfl))) (by show { (⟨none, 0, none, 0, none, 0, none, 0⟩ : Sl) with pa := s.pa, pc := s.pc, fa := s.fa, fc := s.fc } = _; (try simp only [← Bool.not_eq_true, Bool.or_eq_true, Bool.and_eq_true, decide_eq_true_eq] at hb9 hb57 hb64 hb76 hb83 hb90 hb96 hb104); unfold ownSl; simp only [hb9, hb57, hb64, hb76, hb83, hb90, hb96, hb104, ↓reduceIte, or_true, true_or, or_self, Int.reduceEq, or_false, false_or] <;> (first | done | rfl))), H.k⟩)
 refine gx_region ?_
 refine zb (rn_eql) ?_; intro A F
 refine zd ?_; intro A F
 refine wpList_nil (hK102 _ _ ?_)
 refine zc (fun hb111 => ?_) (fun hb111 => ?_)
 ·skip
  refine wp_region_held_drew (S := fun wx => ∃ c9, Hp _ wx [⟨b5, 27, c9⟩, _, _]) (by kernel_rfl) ⟨_, H.drew⟩ (fun H9 => ?_); clear H9; replace H := H.drew
  generalize World.drew _ = W at *
  refine td 0 ?_; intro A F
  refine td 1 ?_; intro A F
  refine td 2 ?_; intro A F
  refine td 3 ?_; intro A F
  refine td 4 ?_; intro A F
  refine td 5 ?_; intro A F
  refine td 6 ?_; intro A F
  let P112 : Pk := { (zk p.kind) with id := p.id }
  refine tst 7 [] ((Pk.cells P112 ((⟨none, 0, none, 0, none, 0, none, 0⟩ : Sl)))) ?_; intro W H9 hk
  clear H hk; have H := H9; clear H9
  refine td 8 ?_; intro A F
  let s113 : Sl := { (⟨none, 0, none, 0, none, 0, none, 0⟩ : Sl) with pa := s.pa, pc := s.pc }
  let P114 : Pk := { P112 with props := p.props }
  refine tst 9 [] ((Pk.cells P114 s113)) ?_; intro W H9 hk
  clear H hk; have H := H9; clear H9
  refine td 10 ?_; intro A F
  let s115 : Sl := { s113 with fa := s.fa, fc := s.fc }
  let P116 : Pk := { P114 with filters := p.filters }
  refine tst 11 [] ((Pk.cells P116 s115)) ?_; intro W H9 hk
  clear H hk; have H := H9; clear H9
  refine wpAnyH_done (by kernel_rfl) ?_ _
  refine hK6 _ _ ?_
  refine wp_seq_k (fun K117 hK117 => gx_region ?_)
  refine hz_do F rfl (ex_load rfl (F.e rfl) (gl_agg ((Pk.cells P116 s115)) rfl (ga_27 _) (gs_27 _) (fun i => H.cs 0 rfl i))) ?_; intro A F
  obtain ⟨W9, hr, hB, hk⟩ := gx_storeAgg (P := Tryz.prog) (S := 27) (c := (Pk.cells P116 s115)) _ (H.b.at_ (j := 1) rfl).1 (gs_27 _) rfl (pk_one _ _)
  refine hz_st (ex_store rfl (F.e rfl) (F.e rfl) hr) ?_; clear hr; replace H : Hp _ _ [_, _, _] := Hp.turn [_] H hk hB; clear hk hB
  refine wpList_nil (hK117 _ _ ?_)
  refine gx_ret ?_
  refine (show bodyPost _ Tryz.f60 RR Exit.ret _ _ from ?_)
  exact bodyPost_ret (fn := Tryz.f60) (gx_resc rfl (F.g 2 _ rfl) (gl_agg ((Pk.cells P116 s115)) rfl (ga_27 _) (gs_27 _) (fun i => H.cs 1 rfl i))) F.d (⟨by unfold Pk.val; exact congrArg (fun x => Ending.returned (.agg x)) (congr (congrArg Pk.cells (by show { (zk p.kind) with id := p.id, props := p.props, filters := p.filters } = _; (try simp only [← Bool.not_eq_true, Bool.or_eq_true, Bool.and_eq_true, decide_eq_true_eq] at hb9 hb57 hb64 hb76 hb83 hb90 hb96 hb104 hb111); unfold bareP; simp only [hb9, hb57, hb64, hb76, hb83, hb90, hb96, hb104, hb111, ↓reduceIte, or_true, true_or, or_self, Int.reduceEq, or_false, false_or] <;> (first | done | rfl))) (by show { (⟨none, 0, none, 0, none, 0, none, 0⟩ : Sl) with pa := s.pa, pc := s.pc, fa := s.fa, fc := s.fc } = _; (try simp only [← Bool.not_eq_true, Bool.or_eq_true, Bool.and_eq_true, decide_eq_true_eq] at hb9 hb57 hb64 hb76 hb83 hb90 hb96 hb104 hb111); unfold ownSl; simp only [hb9, hb57, hb64, hb76, hb83, hb90, hb96, hb104, hb111, ↓reduceIte, or_true, true_or, or_self, Int.reduceEq, or_false, false_or] <;> (first | done | rfl))), H.k⟩)
 refine wp_seq_k (fun K118 hK118 => ?_)
 refine wp_seq_k (fun K119 hK119 => gx_region ?_)
 refine zb (rn_eql) ?_; intro A F
 refine zd ?_; intro A F
 refine wpList_nil (hK119 _ _ ?_)
 refine zc (fun hb120 => ?_) (fun hb120 => ?_)
 ·skip
  refine wp_skip (hK118 _ _ ?_)
  refine wp_cond_true ((F.e rfl).trans (congrArg Value.bool hb120)) ?_
  refine wp_region_held_drew (S := fun wx => ∃ c9, Hp _ wx [⟨b5, 27, c9⟩, _, _]) (by kernel_rfl) ⟨_, H.drew⟩ (fun H9 => ?_); clear H9; replace H := H.drew
  generalize World.drew _ = W at *
  refine td 0 ?_; intro A F
  refine td 1 ?_; intro A F
  refine td 2 ?_; intro A F
  refine td 3 ?_; intro A F
  refine td 4 ?_; intro A F
  refine td 5 ?_; intro A F
  refine td 6 ?_; intro A F
  let P121 : Pk := { (zk p.kind) with id := p.id }
  refine tst 7 [] ((Pk.cells P121 ((⟨none, 0, none, 0, none, 0, none, 0⟩ : Sl)))) ?_; intro W H9 hk
  clear H hk; have H := H9; clear H9
  refine td 8 ?_; intro A F
  let s122 : Sl := { (⟨none, 0, none, 0, none, 0, none, 0⟩ : Sl) with pa := s.pa, pc := s.pc }
  let P123 : Pk := { P121 with props := p.props }
  refine tst 9 [] ((Pk.cells P123 s122)) ?_; intro W H9 hk
  clear H hk; have H := H9; clear H9
  refine td 10 ?_; intro A F
  let s124 : Sl := { s122 with ca := s.ca, cc := s.cc }
  let P125 : Pk := { P123 with codes := p.codes }
  refine tst 11 [] ((Pk.cells P125 s124)) ?_; intro W H9 hk
  clear H hk; have H := H9; clear H9
  refine wpAnyH_done (by kernel_rfl) ?_ _
  refine hK6 _ _ ?_
  refine wp_seq_k (fun K126 hK126 => gx_region ?_)
  refine hz_do F rfl (ex_load rfl (F.e rfl) (gl_agg ((Pk.cells P125 s124)) rfl (ga_27 _) (gs_27 _) (fun i => H.cs 0 rfl i))) ?_; intro A F
  obtain ⟨W9, hr, hB, hk⟩ := gx_storeAgg (P := Tryz.prog) (S := 27) (c := (Pk.cells P125 s124)) _ (H.b.at_ (j := 1) rfl).1 (gs_27 _) rfl (pk_one _ _)
  refine hz_st (ex_store rfl (F.e rfl) (F.e rfl) hr) ?_; clear hr; replace H : Hp _ _ [_, _, _] := Hp.turn [_] H hk hB; clear hk hB
  refine wpList_nil (hK126 _ _ ?_)
  refine gx_ret ?_
  refine (show bodyPost _ Tryz.f60 RR Exit.ret _ _ from ?_)
  exact bodyPost_ret (fn := Tryz.f60) (gx_resc rfl (F.g 2 _ rfl) (gl_agg ((Pk.cells P125 s124)) rfl (ga_27 _) (gs_27 _) (fun i => H.cs 1 rfl i))) F.d (⟨by unfold Pk.val; exact congrArg (fun x => Ending.returned (.agg x)) (congr (congrArg Pk.cells (by show { (zk p.kind) with id := p.id, props := p.props, codes := p.codes } = _; (try simp only [← Bool.not_eq_true, Bool.or_eq_true, Bool.and_eq_true, decide_eq_true_eq] at hb9 hb57 hb64 hb76 hb83 hb90 hb96 hb104 hb111 hb120); unfold bareP; simp only [hb9, hb57, hb64, hb76, hb83, hb90, hb96, hb104, hb111, hb120, ↓reduceIte, or_true, true_or, or_self, Int.reduceEq, or_false, false_or] <;> (first | done | rfl))) (by show { (⟨none, 0, none, 0, none, 0, none, 0⟩ : Sl) with pa := s.pa, pc := s.pc, ca := s.ca, cc := s.cc } = _; (try simp only [← Bool.not_eq_true, Bool.or_eq_true, Bool.and_eq_true, decide_eq_true_eq] at hb9 hb57 hb64 hb76 hb83 hb90 hb96 hb104 hb111 hb120); unfold ownSl; simp only [hb9, hb57, hb64, hb76, hb83, hb90, hb96, hb104, hb111, hb120, ↓reduceIte, or_true, true_or, or_self, Int.reduceEq, or_false, false_or] <;> (first | done | rfl))), H.k⟩)
 refine gx_region ?_
 refine zb (rn_eql) ?_; intro A F
 refine zd ?_; intro A F
 refine wpList_nil (hK118 _ _ ?_)
 refine zc (fun hb127 => ?_) (fun hb127 => ?_)
 ·skip
  refine wp_region_held_drew (S := fun wx => ∃ c9, Hp _ wx [⟨b5, 27, c9⟩, _, _]) (by kernel_rfl) ⟨_, H.drew⟩ (fun H9 => ?_); clear H9; replace H := H.drew
  generalize World.drew _ = W at *
  refine td 0 ?_; intro A F
  refine td 1 ?_; intro A F
  refine td 2 ?_; intro A F
  refine td 3 ?_; intro A F
  refine td 4 ?_; intro A F
  refine td 5 ?_; intro A F
  refine td 6 ?_; intro A F
  let P128 : Pk := { (zk p.kind) with id := p.id }
  refine tst 7 [] ((Pk.cells P128 ((⟨none, 0, none, 0, none, 0, none, 0⟩ : Sl)))) ?_; intro W H9 hk
  clear H hk; have H := H9; clear H9
  refine td 8 ?_; intro A F
  let s129 : Sl := { (⟨none, 0, none, 0, none, 0, none, 0⟩ : Sl) with pa := s.pa, pc := s.pc }
  let P130 : Pk := { P128 with props := p.props }
  refine tst 9 [] ((Pk.cells P130 s129)) ?_; intro W H9 hk
  clear H hk; have H := H9; clear H9
  refine td 10 ?_; intro A F
  let s131 : Sl := { s129 with ca := s.ca, cc := s.cc }
  let P132 : Pk := { P130 with codes := p.codes }
  refine tst 11 [] ((Pk.cells P132 s131)) ?_; intro W H9 hk
  clear H hk; have H := H9; clear H9
  refine wpAnyH_done (by kernel_rfl) ?_ _
  refine hK6 _ _ ?_
  refine wp_seq_k (fun K133 hK133 => gx_region ?_)
  refine hz_do F rfl (ex_load rfl (F.e rfl) (gl_agg ((Pk.cells P132 s131)) rfl (ga_27 _) (gs_27 _) (fun i => H.cs 0 rfl i))) ?_; intro A F
  obtain ⟨W9, hr, hB, hk⟩ := gx_storeAgg (P := Tryz.prog) (S := 27) (c := (Pk.cells P132 s131)) _ (H.b.at_ (j := 1) rfl).1 (gs_27 _) rfl (pk_one _ _)
  refine hz_st (ex_store rfl (F.e rfl) (F.e rfl) hr) ?_; clear hr; replace H : Hp _ _ [_, _, _] := Hp.turn [_] H hk hB; clear hk hB
  refine wpList_nil (hK133 _ _ ?_)
  refine gx_ret ?_
  refine (show bodyPost _ Tryz.f60 RR Exit.ret _ _ from ?_)
  exact bodyPost_ret (fn := Tryz.f60) (gx_resc rfl (F.g 2 _ rfl) (gl_agg ((Pk.cells P132 s131)) rfl (ga_27 _) (gs_27 _) (fun i => H.cs 1 rfl i))) F.d (⟨by unfold Pk.val; exact congrArg (fun x => Ending.returned (.agg x)) (congr (congrArg Pk.cells (by show { (zk p.kind) with id := p.id, props := p.props, codes := p.codes } = _; (try simp only [← Bool.not_eq_true, Bool.or_eq_true, Bool.and_eq_true, decide_eq_true_eq] at hb9 hb57 hb64 hb76 hb83 hb90 hb96 hb104 hb111 hb120 hb127); unfold bareP; simp only [hb9, hb57, hb64, hb76, hb83, hb90, hb96, hb104, hb111, hb120, hb127, ↓reduceIte, or_true, true_or, or_self, Int.reduceEq, or_false, false_or] <;> (first | done | rfl))) (by show { (⟨none, 0, none, 0, none, 0, none, 0⟩ : Sl) with pa := s.pa, pc := s.pc, ca := s.ca, cc := s.cc } = _; (try simp only [← Bool.not_eq_true, Bool.or_eq_true, Bool.and_eq_true, decide_eq_true_eq] at hb9 hb57 hb64 hb76 hb83 hb90 hb96 hb104 hb111 hb120 hb127); unfold ownSl; simp only [hb9, hb57, hb64, hb76, hb83, hb90, hb96, hb104, hb111, hb120, hb127, ↓reduceIte, or_true, true_or, or_self, Int.reduceEq, or_false, false_or] <;> (first | done | rfl))), H.k⟩)
 refine wp_seq_k (fun K134 hK134 => ?_)
 refine wp_seq_k (fun K135 hK135 => gx_region ?_)
 refine zb (rn_eql) ?_; intro A F
 refine zd ?_; intro A F
 refine wpList_nil (hK135 _ _ ?_)
 refine zc (fun hb136 => ?_) (fun hb136 => ?_)
 ·skip
  replace F := (((((F.nil.cons (F.g 131 _ rfl)).cons (F.g 8 _ rfl)).cons (F.g 3 _ rfl)).cons (F.g 2 _ rfl)).cons (F.g 1 _ rfl))
  refine wp_skip (hK134 _ _ ?_)
  refine wp_cond_true ((F.e rfl).trans (congrArg Value.bool hb136)) ?_
  refine wp_region_held_drew (S := fun wx => ∃ c9, Hp _ wx [⟨b5, 27, c9⟩, _, _]) (by kernel_rfl) ⟨_, H.drew⟩ (fun H9 => ?_); clear H9; replace H := H.drew
  generalize World.drew _ = W at *
  refine td 0 ?_; intro A F
  refine td 1 ?_; intro A F
  refine td 2 ?_; intro A F
  refine td 3 ?_; intro A F
  refine td 4 ?_; intro A F
  let P137 : Pk := { (zk p.kind) with code := p.code }
  refine tst 5 [] ((Pk.cells P137 ((⟨none, 0, none, 0, none, 0, none, 0⟩ : Sl)))) ?_; intro W H9 hk
  clear H hk; have H := H9; clear H9
  refine td 6 ?_; intro A F
  let s138 : Sl := { (⟨none, 0, none, 0, none, 0, none, 0⟩ : Sl) with pa := s.pa, pc := s.pc }
  let P139 : Pk := { P137 with props := p.props }
  refine tst 7 [] ((Pk.cells P139 s138)) ?_; intro W H9 hk
  clear H hk; have H := H9; clear H9
  refine wpAnyH_done (by kernel_rfl) ?_ _
  refine hK6 _ _ ?_
  refine wp_seq_k (fun K140 hK140 => gx_region ?_)
  refine hz_do F rfl (ex_load rfl (F.e rfl) (gl_agg ((Pk.cells P139 s138)) rfl (ga_27 _) (gs_27 _) (fun i => H.cs 0 rfl i))) ?_; intro A F
  obtain ⟨W9, hr, hB, hk⟩ := gx_storeAgg (P := Tryz.prog) (S := 27) (c := (Pk.cells P139 s138)) _ (H.b.at_ (j := 1) rfl).1 (gs_27 _) rfl (pk_one _ _)
  refine hz_st (ex_store rfl (F.e rfl) (F.e rfl) hr) ?_; clear hr; replace H : Hp _ _ [_, _, _] := Hp.turn [_] H hk hB; clear hk hB
  refine wpList_nil (hK140 _ _ ?_)
  refine gx_ret ?_
  refine (show bodyPost _ Tryz.f60 RR Exit.ret _ _ from ?_)
  exact bodyPost_ret (fn := Tryz.f60) (gx_resc rfl (F.g 2 _ rfl) (gl_agg ((Pk.cells P139 s138)) rfl (ga_27 _) (gs_27 _) (fun i => H.cs 1 rfl i))) F.d (⟨by unfold Pk.val; exact congrArg (fun x => Ending.returned (.agg x)) (congr (congrArg Pk.cells (by show { (zk p.kind) with code := p.code, props := p.props } = _; (try simp only [← Bool.not_eq_true, Bool.or_eq_true, Bool.and_eq_true, decide_eq_true_eq] at hb9 hb57 hb64 hb76 hb83 hb90 hb96 hb104 hb111 hb120 hb127 hb136); unfold bareP; simp only [hb9, hb57, hb64, hb76, hb83, hb90, hb96, hb104, hb111, hb120, hb127, hb136, ↓reduceIte, or_true, true_or, or_self, Int.reduceEq, or_false, false_or] <;> (first | done | rfl))) (by show { (⟨none, 0, none, 0, none, 0, none, 0⟩ : Sl) with pa := s.pa, pc := s.pc } = _; (try simp only [← Bool.not_eq_true, Bool.or_eq_true, Bool.and_eq_true, decide_eq_true_eq] at hb9 hb57 hb64 hb76 hb83 hb90 hb96 hb104 hb111 hb120 hb127 hb136); unfold ownSl; simp only [hb9, hb57, hb64, hb76, hb83, hb90, hb96, hb104, hb111, hb120, hb127, hb136, ↓reduceIte, or_true, true_or, or_self, Int.reduceEq, or_false, false_or] <;> (first | done | rfl))), H.k⟩)
 replace F := (((((F.nil.cons (F.g 131 _ rfl)).cons (F.g 8 _ rfl)).cons (F.g 3 _ rfl)).cons (F.g 2 _ rfl)).cons (F.g 1 _ rfl))
 refine gx_region ?_
 refine zb (rn_eql) ?_; intro A F
 refine zd ?_; intro A F
 refine wpList_nil (hK134 _ _ ?_)
 refine zc (fun hb141 => ?_) (fun hb141 => ?_)
 ·skip
  refine wp_region_held_drew (S := fun wx => ∃ c9, Hp _ wx [⟨b5, 27, c9⟩, _, _]) (by kernel_rfl) ⟨_, H.drew⟩ (fun H9 => ?_); clear H9; replace H := H.drew
  generalize World.drew _ = W at *
  refine td 0 ?_; intro A F
  refine td 1 ?_; intro A F
  refine td 2 ?_; intro A F
  refine td 3 ?_; intro A F
  refine td 4 ?_; intro A F
  let P142 : Pk := { (zk p.kind) with code := p.code }
  refine tst 5 [] ((Pk.cells P142 ((⟨none, 0, none, 0, none, 0, none, 0⟩ : Sl)))) ?_; intro W H9 hk
  clear H hk; have H := H9; clear H9
  refine td 6 ?_; intro A F
  let s143 : Sl := { (⟨none, 0, none, 0, none, 0, none, 0⟩ : Sl) with pa := s.pa, pc := s.pc }
  let P144 : Pk := { P142 with props := p.props }
  refine tst 7 [] ((Pk.cells P144 s143)) ?_; intro W H9 hk
  clear H hk; have H := H9; clear H9
  refine wpAnyH_done (by kernel_rfl) ?_ _
  refine hK6 _ _ ?_
  refine wp_seq_k (fun K145 hK145 => gx_region ?_)
  refine hz_do F rfl (ex_load rfl (F.e rfl) (gl_agg ((Pk.cells P144 s143)) rfl (ga_27 _) (gs_27 _) (fun i => H.cs 0 rfl i))) ?_; intro A F
  obtain ⟨W9, hr, hB, hk⟩ := gx_storeAgg (P := Tryz.prog) (S := 27) (c := (Pk.cells P144 s143)) _ (H.b.at_ (j := 1) rfl).1 (gs_27 _) rfl (pk_one _ _)
  refine hz_st (ex_store rfl (F.e rfl) (F.e rfl) hr) ?_; clear hr; replace H : Hp _ _ [_, _, _] := Hp.turn [_] H hk hB; clear hk hB
  refine wpList_nil (hK145 _ _ ?_)
  refine gx_ret ?_
  refine (show bodyPost _ Tryz.f60 RR Exit.ret _ _ from ?_)
  exact bodyPost_ret (fn := Tryz.f60) (gx_resc rfl (F.g 2 _ rfl) (gl_agg ((Pk.cells P144 s143)) rfl (ga_27 _) (gs_27 _) (fun i => H.cs 1 rfl i))) F.d (⟨by unfold Pk.val; exact congrArg (fun x => Ending.returned (.agg x)) (congr (congrArg Pk.cells (by show { (zk p.kind) with code := p.code, props := p.props } = _; (try simp only [← Bool.not_eq_true, Bool.or_eq_true, Bool.and_eq_true, decide_eq_true_eq] at hb9 hb57 hb64 hb76 hb83 hb90 hb96 hb104 hb111 hb120 hb127 hb136 hb141); unfold bareP; simp only [hb9, hb57, hb64, hb76, hb83, hb90, hb96, hb104, hb111, hb120, hb127, hb136, hb141, ↓reduceIte, or_true, true_or, or_self, Int.reduceEq, or_false, false_or] <;> (first | done | rfl))) (by show { (⟨none, 0, none, 0, none, 0, none, 0⟩ : Sl) with pa := s.pa, pc := s.pc } = _; (try simp only [← Bool.not_eq_true, Bool.or_eq_true, Bool.and_eq_true, decide_eq_true_eq] at hb9 hb57 hb64 hb76 hb83 hb90 hb96 hb104 hb111 hb120 hb127 hb136 hb141); unfold ownSl; simp only [hb9, hb57, hb64, hb76, hb83, hb90, hb96, hb104, hb111, hb120, hb127, hb136, hb141, ↓reduceIte, or_true, true_or, or_self, Int.reduceEq, or_false, false_or] <;> (first | done | rfl))), H.k⟩)
 refine wp_skip (hK6 _ _ ?_)
 refine wp_seq_k (fun K146 hK146 => gx_region ?_)
 refine hz_do F rfl (ex_load rfl (F.e rfl) (gl_agg ((Pk.cells ((zk p.kind)) ((⟨none, 0, none, 0, none, 0, none, 0⟩ : Sl)))) rfl (ga_27 _) (gs_27 _) (fun i => H.cs 0 rfl i))) ?_; intro A F
 obtain ⟨W9, hr, hB, hk⟩ := gx_storeAgg (P := Tryz.prog) (S := 27) (c := (Pk.cells ((zk p.kind)) ((⟨none, 0, none, 0, none, 0, none, 0⟩ : Sl)))) _ (H.b.at_ (j := 1) rfl).1 (gs_27 _) rfl (pk_one _ _)
 refine hz_st (ex_store rfl (F.e rfl) (F.e rfl) hr) ?_; clear hr; replace H : Hp _ _ [_, _, _] := Hp.turn [_] H hk hB; clear hk hB
 refine wpList_nil (hK146 _ _ ?_)
 refine gx_ret ?_
 refine (show bodyPost _ Tryz.f60 RR Exit.ret _ _ from ?_)
 exact bodyPost_ret (fn := Tryz.f60) (gx_resc rfl (F.g 2 _ rfl) (gl_agg ((Pk.cells ((zk p.kind)) ((⟨none, 0, none, 0, none, 0, none, 0⟩ : Sl)))) rfl (ga_27 _) (gs_27 _) (fun i => H.cs 1 rfl i))) F.d (⟨by unfold Pk.val; exact congrArg (fun x => Ending.returned (.agg x)) (congr (congrArg Pk.cells (by (try simp only [← Bool.not_eq_true, Bool.or_eq_true, Bool.and_eq_true, decide_eq_true_eq] at hb9 hb57 hb64 hb76 hb83 hb90 hb96 hb104 hb111 hb120 hb127 hb136 hb141); unfold bareP; simp only [hb9, hb57, hb64, hb76, hb83, hb90, hb96, hb104, hb111, hb120, hb127, hb136, hb141, ↓reduceIte, or_true, true_or, or_self, Int.reduceEq, or_false, false_or] <;> (first | done | rfl))) (by (try simp only [← Bool.not_eq_true, Bool.or_eq_true, Bool.and_eq_true, decide_eq_true_eq] at hb9 hb57 hb64 hb76 hb83 hb90 hb96 hb104 hb111 hb120 hb127 hb136 hb141); unfold ownSl; simp only [hb9, hb57, hb64, hb76, hb83, hb90, hb96, hb104, hb111, hb120, hb127, hb136, hb141, ↓reduceIte, or_true, true_or, or_self, Int.reduceEq, or_false, false_or] <;> (first | done | rfl))), H.k⟩)
theorem rconnect_any (v : Int) (p : Pk) (s : Sl) (w : World) (hp : p.At s w) (hF : Fit p) :
  Calls Tryz.prog 104 #[.int .i64 v, p.val s] w fun e w' => e = .returned (.bool (connectD v p)) ∧ Kept No w w' := by
 have hcl : decide (p.client.size = 0) = decide (p.client = ⟨#[]⟩) := by
  by_cases h : p.client.size = 0
  ·rw [empty_of h]; rfl
  ·have h2 : p.client ≠ ⟨#[]⟩ := fun e => h (by rw [e]; rfl)
   simp [h2, h]
 let RR : Ending → World → Prop := fun e w' => e = .returned (.bool (connectD v p)) ∧ Kept No w w'
 go_enter Tryz.func104, Tryz.ntmps104
 generalize hA : ({ tmps := _, defers := [] } : Act) = A
 have F : Fr A 61 [(1, (Pk.val p s)), (0, (.int .i64 v))] := by rw [← hA]; exact (Fr.cons (i := 1) (v := (Pk.val p s)) (Fr.cons (i := 0) (v := (.int .i64 v)) (Fr.nil0 rfl rfl) rfl) rfl)
 clear hA; have H := Hp.start w
 refine wp_seq_k (fun K1 hK1 => gx_region ?_)
 refine hz_new (c := (Pk.cells p s)) (t := 27) F H rfl (ex_box rfl (F.e rfl) (gx_box _ _)) ?_; clear F A; intro b2 W A hk hN H9 F; clear H; have H := H9; clear H9
 clear hk hN
 refine zd ?_; intro A F
 refine wpList_nil (hK1 _ _ ?_)
 refine wp_seq_k (fun K3 hK3 => ?_)
 refine wp_seq_k (fun K4 hK4 => gx_region ?_)
 iterate 3 (refine zd ?_; intro A F)
 iterate 2 (refine zg ?_; intro A F)
 refine zgb (rn_gtrN (i := p.willQoS) (j := 2)) ?_; intro A F
 iterate 3 (refine zg ?_; intro A F)
 refine hz_callg F H rfl (hw_of F rfl rfl rfl) (fun hG => (ex_call rfl rfl (gx_l1 (F.o rfl hG) gx_l0) fn_140)) (fun hG => rname_any p.willTopic _ (by have := hF.r.client; have := hF.r.user; have := hF.r.topic; have := hF.r.willTopic; omega)) ?_; clear F H A; intro W A hk H F
 clear hk
 iterate 2 (refine zg ?_; intro A F)
 refine hz_do F rfl (ex_pickA rfl (F.e rfl) (fun hx => (F.o rfl hx)) rfl) ?_; intro A F
 refine zd ?_; intro A F
 refine zg ?_; intro A F
 refine zgb (rn_eql) ?_; intro A F
 iterate 11 (refine zg ?_; intro A F)
 refine zgb (rn_seql) ?_; intro A F
 iterate 7 (refine zg ?_; intro A F)
 refine hz_do F rfl (ex_pickO rfl (F.e rfl) (fun hx => (F.o rfl (gnt hx))) rfl) ?_; intro A F
 refine wpList_nil (hK4 _ _ ?_)
 refine zc (fun hb6 => ?_) (fun hb6 => ?_)
 ·skip
  replace F := ((F.nil.cons (F.g 4 _ rfl)).cons (F.g 3 _ rfl))
  refine wp_seq_k (fun K7 hK7 => gx_region ?_)
  refine zd ?_; intro A F
  refine wpList_nil (hK7 _ _ ?_)
  refine gx_ret ?_
  refine (show bodyPost _ Tryz.f104 RR Exit.ret _ _ from zr ?_)
  exact ⟨congrArg (fun b => Ending.returned (.bool b)) (by have h7 := hb6; (try simp only [Bool.or_assoc, Bool.and_assoc] at h7); unfold connectD; rw [hcl]; (try simp only [Bool.or_assoc, Bool.and_assoc]); rw [h7]; (first | rfl | (simp; done))), H.k⟩
 replace F := ((F.nil.cons (F.g 4 _ rfl)).cons (F.g 3 _ rfl))
 refine wp_skip (hK3 _ _ ?_)
 refine wp_seq_k (fun K8 hK8 => gx_region ?_)
 iterate 2 (refine zd ?_; intro A F)
 refine hz_do F rfl (ex_len rfl (gx_l1 (F.e rfl) gx_l0) (rn_lenstr Tryz.underlying9)) ?_; intro A F
 refine zb (rn_leqN (i := p.pass.size) (j := 65535)) ?_; intro A F
 refine zd ?_; intro A F
 iterate 2 (refine zg ?_; intro A F)
 refine hz_g F rfl (hw_t F rfl rfl rfl) (fun hG => (ex_len rfl (gx_l1 (F.o rfl hG) gx_l0) (rn_lenstr Tryz.underlying9))) ?_; intro A F
 refine zgb (rn_leqN (i := p.willLoad.size) (j := 65535)) ?_; intro A F
 refine hz_do F rfl (ex_pickA rfl (F.e rfl) (fun hx => (F.o rfl hx)) rfl) ?_; intro A F
 refine zd ?_; intro A F
 iterate 2 (refine zg ?_; intro A F)
 refine hz_callg F H rfl (hw_t F rfl rfl rfl) (fun hG => (ex_call rfl rfl (gx_l1 (F.o rfl hG) gx_l0) fn_133)) (fun hG => refRightK p.client _ (by have := hF.r.client; have := hF.r.user; have := hF.r.topic; have := hF.r.willTopic; omega)) ?_; clear F H A; intro W A hk H F
 clear hk
 refine hz_do F rfl (ex_pickA rfl (F.e rfl) (fun hx => (F.o rfl hx)) rfl) ?_; intro A F
 refine zd ?_; intro A F
 iterate 2 (refine zg ?_; intro A F)
 refine hz_callg F H rfl (hw_t F rfl rfl rfl) (fun hG => (ex_call rfl rfl (gx_l1 (F.o rfl hG) gx_l0) fn_133)) (fun hG => refRightK p.user _ (by have := hF.r.client; have := hF.r.user; have := hF.r.topic; have := hF.r.willTopic; omega)) ?_; clear F H A; intro W A hk H F
 clear hk
 refine hz_do F rfl (ex_pickA rfl (F.e rfl) (fun hx => (F.o rfl hx)) rfl) ?_; intro A F
 refine zd ?_; intro A F
 refine wpList_nil (hK8 _ _ ?_)
 refine gx_ret ?_
 refine (show bodyPost _ Tryz.f104 RR Exit.ret _ _ from zr ?_)
 exact ⟨congrArg (fun b => Ending.returned (.bool b)) (by have h7 := hb6; (try simp only [Bool.or_assoc, Bool.and_assoc] at h7); unfold connectD; rw [hcl]; (try simp only [Bool.or_assoc, Bool.and_assoc]); rw [h7]; (first | rfl | (simp; done))), H.k⟩
def publishC (v : Int) (p : Pk) : Bool :=
 match decide (2 < p.qos) with
 | true => false
 | false => match p.dup && decide (p.qos = 0) with
  | true => false
  | false => match !(decide (p.id = 0) == decide (p.qos = 0)) with
   | true => false
   | false => nameB p.topic || (decide (v = 5) && (decide (p.topic = ⟨#[]⟩) && (getL p.props 35).isSome))
theorem publishC_eq (v : Int) (p : Pk) : publishC v p = publishD v p := by
 have hcl : decide (p.topic = ⟨#[]⟩) = decide (p.topic.size = 0) := by
  by_cases h : p.topic.size = 0
  ·rw [empty_of h]; rfl
  ·have h2 : p.topic ≠ ⟨#[]⟩ := fun e => h (by rw [e]; rfl)
   simp [h2, h]
 unfold publishC publishD
 rw [hcl]
 by_cases h1 : 2 < p.qos
 ·rw [decide_eq_true h1, if_pos (.inl h1)]
 ·rw [decide_eq_false h1]
  cases h2 : p.dup with
  | true =>
   by_cases h3 : p.qos = 0
   ·rw [decide_eq_true h3, if_pos (.inr (.inl ⟨rfl, h3⟩))]; rfl
   ·rw [decide_eq_false h3]
    by_cases h4 : p.id = 0
    ·rw [decide_eq_true h4, if_pos (.inr (.inr (by simp)))]; rfl
    ·rw [decide_eq_false h4, if_neg (by simp [h1, h3])]; rfl
  | false =>
   by_cases h3 : p.qos = 0
   ·rw [decide_eq_true h3]
    by_cases h4 : p.id = 0
    ·rw [decide_eq_true h4, if_neg (by simp [h1])]; rfl
    ·rw [decide_eq_false h4, if_pos (.inr (.inr (by simp)))]; rfl
   ·rw [decide_eq_false h3]
    by_cases h4 : p.id = 0
    ·rw [decide_eq_true h4, if_pos (.inr (.inr (by simp)))]; rfl
    ·rw [decide_eq_false h4, if_neg (by simp [h1])]; rfl
theorem rpublish_any (v : Int) (p : Pk) (s : Sl) (w : World) (hp : p.At s w) (hF : Fit p) :
  Calls Tryz.prog 106 #[.int .i64 v, p.val s] w fun e w' => e = .returned (.bool (publishD v p)) ∧ Kept No w w' := by
 rw [← publishC_eq]
 let RR : Ending → World → Prop := fun e w' => e = .returned (.bool (publishC v p)) ∧ Kept No w w'
 go_enter Tryz.func106, Tryz.ntmps106
 generalize hA : ({ tmps := _, defers := [] } : Act) = A
 have F : Fr A 49 [(1, (Pk.val p s)), (0, (.int .i64 v))] := by rw [← hA]; exact (Fr.cons (i := 1) (v := (Pk.val p s)) (Fr.cons (i := 0) (v := (.int .i64 v)) (Fr.nil0 rfl rfl) rfl) rfl)
 clear hA; have H := Hp.start w
 refine wp_seq_k (fun K1 hK1 => gx_region ?_)
 refine hz_new (c := (Pk.cells p s)) (t := 27) F H rfl (ex_box rfl (F.e rfl) (gx_box _ _)) ?_; clear F A; intro b2 W A hk hN H9 F; clear H; have H := H9; clear H9
 clear hk hN
 refine zd ?_; intro A F
 refine wpList_nil (hK1 _ _ ?_)
 refine wp_seq_k (fun K3 hK3 => ?_)
 refine wp_seq_k (fun K4 hK4 => gx_region ?_)
 iterate 2 (refine zd ?_; intro A F)
 refine zb (rn_gtrN (i := p.qos) (j := 2)) ?_; intro A F
 refine zd ?_; intro A F
 iterate 5 (refine zg ?_; intro A F)
 refine zgb (rn_eqlN (i := p.qos) (j := 0)) ?_; intro A F
 refine zg ?_; intro A F
 refine hz_do F rfl (ex_pickO rfl (F.e rfl) (fun hx => (F.o rfl (gnt hx))) rfl) ?_; intro A F
 refine zd ?_; intro A F
 iterate 2 (refine zg ?_; intro A F)
 refine zgb (rn_eqlN (i := p.id) (j := 0)) ?_; intro A F
 iterate 2 (refine zg ?_; intro A F)
 refine zgb (rn_eqlN (i := p.qos) (j := 0)) ?_; intro A F
 refine zgb (rn_bneq Tryz.underlying4) ?_; intro A F
 refine hz_do F rfl (ex_pickO rfl (F.e rfl) (fun hx => (F.o rfl (gnt hx))) rfl) ?_; intro A F
 refine wpList_nil (hK4 _ _ ?_)
 refine zc (fun hb5 => ?_) (fun hb5 => ?_)
 ·skip
  replace F := (((F.nil.cons (F.g 4 _ rfl)).cons (F.g 3 _ rfl)).cons (F.g 0 _ rfl))
  refine wp_seq_k (fun K6 hK6 => gx_region ?_)
  refine zd ?_; intro A F
  refine wpList_nil (hK6 _ _ ?_)
  refine gx_ret ?_
  refine (show bodyPost _ Tryz.f106 RR Exit.ret _ _ from zr ?_)
  exact ⟨congrArg (fun b => Ending.returned (.bool b)) (by have h7 := hb5; unfold publishC; revert h7; generalize decide (2 < p.qos) = x1; generalize decide (p.qos = 0) = x2; generalize decide (p.id = 0) = x3; generalize nameB p.topic = x4; generalize decide (v = 5) = x5; generalize decide (p.topic = ⟨#[]⟩) = x6; generalize (getL p.props 35).isSome = x7; generalize p.dup = x8; cases x1 <;> cases x2 <;> cases x3 <;> cases x8 <;> simp [Bool.and_assoc]), H.k⟩
 replace F := (((F.nil.cons (F.g 4 _ rfl)).cons (F.g 3 _ rfl)).cons (F.g 0 _ rfl))
 refine wp_skip (hK3 _ _ ?_)
 refine wp_seq_k (fun K7 hK7 => gx_region ?_)
 iterate 2 (refine zd ?_; intro A F)
 refine hz_call (R := fun vv ww => ∃ x9 : Pr, vv = .tuple #[.agg #[.int .u8 x9.id, .int .u32 x9.n, .string x9.a, .string x9.b], .bool (getL p.props 35).isSome]) F H rfl (ex_call rfl rfl (gx_l1 (F.e rfl) (gx_l1 gx_evc gx_l0)) fn_56) ((rget_any s.pa s.pc p.props 35 _ (hp.kept H.k).hp hF.few.hp).mono fun e9 ww h9 => ⟨_, h9.1, ⟨_, rfl⟩, h9.2⟩) ?_; clear F H A; intro vv W A hR hk H F; obtain ⟨x8, rfl⟩ := hR
 clear hk
 iterate 3 (refine zd ?_; intro A F)
 refine hz_new (c := #[(.int .u8 0), (.int .u32 0), (.string ⟨#[]⟩), (.string ⟨#[]⟩)]) (t := 86) F H rfl (ex_alloc rfl (al_86 _)) ?_; clear F A; intro b9 W A hk hN H9 F; clear H; have H := H9; clear H9
 clear hk hN
 obtain ⟨W9, hr, hB, hk⟩ := gx_storeAgg (P := Tryz.prog) (S := 86) (c := #[(.int .u8 ((x8.id : Int))), (.int .u32 ((x8.n : Int))), (.string x8.a), (.string x8.b)]) _ (H.b.at_ (j := 0) rfl).1 (gs_86 _) rfl (by simp [Value.oneCell'])
 refine hz_st (ex_store rfl (F.e rfl) (F.e rfl) hr) ?_; clear hr; replace H : Hp _ _ [_, _] := Hp.turn [] H hk hB; clear hk hB
 refine zd ?_; intro A F
 refine wpList_nil (hK7 _ _ ?_)
 refine wp_seq_k (fun K10 hK10 => gx_region ?_)
 iterate 2 (refine zd ?_; intro A F)
 refine hz_callk F H rfl (ex_call rfl rfl (gx_l1 (F.e rfl) gx_l0) fn_140) (rname_any p.topic _ (by have := hF.r.client; have := hF.r.user; have := hF.r.topic; have := hF.r.willTopic; omega)) ?_; clear F H A; intro W A hk H F
 clear hk
 refine zd ?_; intro A F
 refine zg ?_; intro A F
 refine zgb (rn_eql) ?_; intro A F
 iterate 3 (refine zg ?_; intro A F)
 refine zgb (rn_seql) ?_; intro A F
 iterate 4 (refine zg ?_; intro A F)
 refine hz_do F rfl (ex_pickO rfl (F.e rfl) (fun hx => (F.o rfl (gnt hx))) rfl) ?_; intro A F
 refine zd ?_; intro A F
 refine wpList_nil (hK10 _ _ ?_)
 refine gx_ret ?_
 refine (show bodyPost _ Tryz.f106 RR Exit.ret _ _ from zr ?_)
 exact ⟨congrArg (fun b => Ending.returned (.bool b)) (by have h7 := hb5; unfold publishC; revert h7; generalize decide (2 < p.qos) = x1; generalize decide (p.qos = 0) = x2; generalize decide (p.id = 0) = x3; generalize nameB p.topic = x4; generalize decide (v = 5) = x5; generalize decide (p.topic = ⟨#[]⟩) = x6; generalize (getL p.props 35).isSome = x7; generalize p.dup = x8; cases x1 <;> cases x2 <;> cases x3 <;> cases x8 <;> simp [Bool.and_assoc]), H.k⟩
end Go.Proofs.YtomppebamfpimaaGreatDoor
