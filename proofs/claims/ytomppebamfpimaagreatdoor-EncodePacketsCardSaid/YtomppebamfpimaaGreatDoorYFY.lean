import Derived.Test.YtomppebamfpimaaGreatDoorYFK
import Derived.Test.YtomppebamfpimaaGreatDoorYFL
import Derived.Test.YtomppebamfpimaaGreatDoorYFE
import Derived.Test.YtomppebamfpimaaGreatDoorYFV
import Derived.Test.YtomppebamfpimaaGreatDoorYFG
import Derived.Test.YtomppebamfpimaaGreatDoorYF3
namespace Go.Proofs.YtomppebamfpimaaGreatDoor
open Go.RowKit
set_option linter.unusedVariables false
set_option linter.unusedSimpArgs false
set_option maxRecDepth 100000
theorem IsPk.at {w : World} {p : Pk} {s : Sl} (h : IsPk w p s) : p.At s w := ⟨h.hw.hrow, h.hf.hrow, h.hc.hrow, h.hp.hrow⟩
theorem IsPk.fit {w : World} {p : Pk} {s : Sl} (h : IsPk w p s) (r : Reach p) (f : Small p) : Fit p := ⟨f.few, ⟨fun x hx => ⟨(h.hw.hwf x hx).1, (h.hw.hwf x hx).2.1, by have := (f.tw x hx).1; omega, by have := (f.tw x hx).2; omega⟩, fun x hx => ⟨(h.hp.hwf x hx).1, (h.hp.hwf x hx).2.1, by have := (f.tp x hx).1; omega, by have := (f.tp x hx).2; omega⟩⟩, r, h.hqos, h.hid, h.hkeep, h.hwillQoS, h.hcode, fun f hf => (h.hf.hwf f hf).2⟩
theorem hb_three {P : Program} {ops : Array Oper} {Q : Exit → Act → World → Prop} {a : Act} {w : World} {md : Region.Mode} {S : World → Prop} {fuel : Nat} {listed : Array Bool} {i j k : Nat} (hr : Region.ready md ops listed = [i, j, k]) (h1 : wpOp P ops Q i (fun a' w' => S w' ∧ wpAnyH P md ops Q S fuel (listed.setIfInBounds i true) a' w') a w)
  (h2 : wpOp P ops Q j (fun a' w' => S w' ∧ wpAnyH P md ops Q S fuel (listed.setIfInBounds j true) a' w') a w) (h3 : wpOp P ops Q k (fun a' w' => S w' ∧ wpAnyH P md ops Q S fuel (listed.setIfInBounds k true) a' w') a w) : wpAnyH P md ops Q S (fuel + 1) listed a w := by
 refine wpAnyH_all hr (by simp) fun x hx => ?_
 simp only [List.mem_cons, List.mem_nil_iff, or_false] at hx
 rcases hx with rfl | rfl | rfl
 ·exact h1
 ·exact h2
 ·exact h3
theorem own_madeJ {w w0 : World} {M : List Bk} {b m k j : Nat} {e : TypeId} {c : Array Value} (H : Hp w0 w M) (hj : M[j]? = some ⟨b, e, c⟩) (hc : c.size = m * k) (hm : m ≤ maxLen) : w.ownsRow w0.heap.size e k (.slice (some ⟨b, 0, none⟩) m m) m c.toList := by
 have hb := H.b.at_ hj
 refine ⟨by simpa using hc, .inr ⟨b, m, c, rfl, hb.2, hb.1, Nat.le_refl _, hm, hc, ?_⟩⟩
 rw [List.take_of_length_le (by simp [hc])]
theorem Hps.del {w0 w : World} : ∀ (M1 : List Bk) {M2 : List Bk} {x : Bk}, Hps w0 w (M1 ++ x :: M2) → Hps w0 w (M1 ++ M2)
 | [], _, _, h => h.2.2.2
 | y :: M1, M2, x, h => ⟨h.1, h.2.1, fun z hz => h.2.2.1 z (by rcases List.mem_append.1 hz with q | q; exact List.mem_append.2 (.inl q); exact List.mem_append.2 (.inr (List.mem_cons_of_mem _ q))), Hps.del M1 h.2.2.2⟩
theorem Hp.del {w0 w : World} (M1 : List Bk) {M2 : List Bk} {x : Bk} (H : Hp w0 w (M1 ++ x :: M2)) : Hp w0 w (M1 ++ M2) := ⟨H.k, Hps.del M1 H.b⟩
theorem take_fi {L : List Fi} {j : Nat} (h : j < L.length) : L.take (j + 1) = L.take j ++ [L[j]] := List.take_succ_eq_append_getElem h
set_option maxHeartbeats 4000000 in
theorem pkto2_any (p : Pk) (s : Sl) (w : World) (hp : p.At s w) (hpf : p.few) (hcn : s.ca = none → p.codes.length = 0 ∧ s.cc = 0) :
  Calls Tryz.prog 17 #[p.val s] w fun e w' => ∃ s', e = .returned (p.val s') ∧ p.At s' w' ∧ Kept No w w' ∧ (s'.ca = none → p.codes.length = 0 ∧ s'.cc = 0) := by
 have b1 := hpf.hw; have b2 := hpf.hf; have b3 := hpf.hc; have b4 := hpf.hp
 let RR : Ending → World → Prop := fun e w' => ∃ s', e = .returned (p.val s') ∧ p.At s' w' ∧ Kept No w w' ∧ (s'.ca = none → p.codes.length = 0 ∧ s'.cc = 0)
 go_enter Tryz.func17, Tryz.ntmps17
 generalize hA : ({ tmps := _, defers := [] } : Act) = A
 have F : Fr A 84 [(0, (Pk.val p s))] := by rw [← hA]; exact (Fr.cons (i := 0) (v := (Pk.val p s)) (Fr.nil0 rfl rfl) rfl)
 clear hA; have H := Hp.start w
 refine wp_seq_k (fun K1 hK1 => gx_region ?_)
 refine hz_new (c := (Pk.cells p s)) (t := 27) F H rfl (ex_box rfl (F.e rfl) (gx_box _ _)) ?_; clear F A; intro b2 W A hk hN H9 F; clear H; have H := H9; clear H9
 clear hk hN
 refine hz_new (c := zeroPk) (t := 33) F H rfl (ex_alloc rfl (al_33 _)) ?_; clear F A; intro b3 W A hk hN H9 F; clear H; have H := H9; clear H9
 clear hk hN
 refine wpList_nil (hK1 _ _ ?_)
 refine hz_cut (fun A W => ∃ bt : Nat, ∃ aw : Option Addr, ∃ cw : Nat, ∃ ac : Option Addr, ∃ cc : Nat, ∃ ap : Option Addr, ∃ cp : Nat, Fr A 84 [(1, (.pointer (some ⟨b2, 0, none⟩))), (2, (.pointer (some ⟨b3, 0, none⟩))), (3, (.pointer (some ⟨bt, 0, none⟩)))] ∧ Hp w W [⟨bt, 33, (Pk.cells { p with filters := [] } (⟨aw, cw, none, 0, ac, cc, ap, cp⟩ : Sl))⟩, ⟨b3, 33, zeroPk⟩, ⟨b2, 27, (Pk.cells p s)⟩] ∧ W.ownsRow w.heap.size 142 4 (.slice aw p.willProps.length cw) p.willProps.length (PC p.willProps) ∧ W.ownsRow w.heap.size 5 1 (.slice ac p.codes.length cc) p.codes.length (B8 p.codes) ∧ W.ownsRow w.heap.size 142 4 (.slice ap p.props.length cp) p.props.length (PC p.props)) (fun A W hM => ?_) (fun K4 hK4 => ?_)
 rotate_left
 ·skip
  refine wp_region_held_drew (S := fun wx => Hp _ wx _) (by kernel_rfl) H.drew (fun H9 => ?_); clear H; have H := H9; clear H9
  generalize World.drew _ = W at *
  refine td 0 ?_; intro A F
  refine td 1 ?_; intro A F
  refine td 2 ?_; intro A F
  refine td 3 ?_; intro A F
  refine td 4 ?_; intro A F
  refine td 5 ?_; intro A F
  refine td 6 ?_; intro A F
  refine td 7 ?_; intro A F
  refine td 8 ?_; intro A F
  refine td 9 ?_; intro A F
  refine td 10 ?_; intro A F
  refine td 11 ?_; intro A F
  refine td 12 ?_; intro A F
  refine td 13 ?_; intro A F
  refine td 14 ?_; intro A F
  refine td 15 ?_; intro A F
  refine td 16 ?_; intro A F
  refine td 17 ?_; intro A F
  refine td 18 ?_; intro A F
  refine td 19 ?_; intro A F
  refine td 20 ?_; intro A F
  refine td 21 ?_; intro A F
  refine td 22 ?_; intro A F
  refine td 23 ?_; intro A F
  refine td 24 ?_; intro A F
  refine td 25 ?_; intro A F
  refine td 26 ?_; intro A F
  refine td 27 ?_; intro A F
  refine td 29 ?_; intro A F
  refine td 30 ?_; intro A F
  refine td 31 ?_; intro A F
  refine td 32 ?_; intro A F
  refine td 33 ?_; intro A F
  refine td 34 ?_; intro A F
  refine td 35 ?_; intro A F
  refine td 36 ?_; intro A F
  refine td 37 ?_; intro A F
  refine td 38 ?_; intro A F
  refine td 39 ?_; intro A F
  refine td 40 ?_; intro A F
  refine td 41 ?_; intro A F
  refine td 42 ?_; intro A F
  refine td 43 ?_; intro A F
  refine td 44 ?_; intro A F
  refine td 46 ?_; intro A F
  refine td 47 ?_; intro A F
  refine td 49 ?_; intro A F
  refine td 50 ?_; intro A F
  refine hb_three (i := 28) (j := 45) (k := 53) (by kernel_rfl) ?_ ?_ ?_
  ·skip
   refine hb_call (i := 28) (R := fun vv ww => ∃ a1 c1, vv = .slice a1 p.willProps.length c1 ∧ ww.ownsRow w.heap.size 142 4 (.slice a1 p.willProps.length c1) p.willProps.length (PC p.willProps)) F rfl rfl (ex_call rfl rfl (gx_l1 (F.e rfl) gx_l0) fn_41) ((tolist_any s.wa s.wc p.willProps _ (hp.kept H.k).hw (by omega)).mono fun e9 ww h => by obtain ⟨a1, c1, h1, h2, h3⟩ := h; exact ⟨_, h1, ⟨a1, c1, rfl, og_base h2 H.size⟩, h3⟩) (fun _ hk => (H.kept hk)) ?_; clear F A; intro vv W A hR hk _ F; replace H := H.kept hk; obtain ⟨aw, cw, rfl, hW⟩ := hR
   clear hk
   refine hb_two (i := 45) (j := 53) (by kernel_rfl) ?_ ?_
   ·skip
    refine hb_blk (i := 45) (c := #[]) (t := 5) (fun b9 => .slice (some ⟨b9, 0, none⟩) 0 0) F H rfl rfl (ex_buildSlice rfl gx_p0 (by kernel_rfl)) (fun _ _ H => H.tl) ?_; clear F A; intro b6 W A hk hN H9 F; clear H; have H := H9; clear H9
    replace hW := og_kept hW hk
    clear hk hN
    refine hb_two (i := 48) (j := 53) (by kernel_rfl) ?_ ?_
    ·skip
     have hO := own_madeJ (k := 1) (m := 0) H (j := 0) rfl rfl (by decide)
     replace H : Hp _ _ [_, _] := Hp.del [] H
     obtain ⟨v9, W9, hrun, hC, hg, _⟩ := append_bytes W w.heap.size b6 s.ca s.cc p.codes hO (hp.kept H.k).hc hcn (by omega) H.size
     have hkS : Kept (Sv (.slice (some ⟨b6, 0, none⟩) 0 0)) W W9 := kept_grown hg
     obtain ⟨ac, cc, hv9⟩ := own_slice hC; subst hv9
     replace hW := og_other hO hW (by decide) hkS
     replace H := Hp.grown H hO hkS (fa1 (sv_type hO (H.b.at_ (j := 0) rfl).1 (show 33 ≠ 5 by decide)) (fa1 (sv_type hO (H.b.at_ (j := 1) rfl).1 (show 27 ≠ 5 by decide)) fa0))
     refine hb_new (i := 48) F rfl rfl (ex_builtin rfl (gx_l1 (F.e rfl) (gx_l1 (F.e rfl) gx_l0)) (fun cs => by simp only [builtin]; exact gx_val hrun)) (H) ?_; intro A F
     clear hrun hg hkS hO; generalize W9 = W at *
     refine hb_two (i := 51) (j := 53) (by kernel_rfl) ?_ ?_
     ·skip
      refine hb_call (i := 51) (R := fun vv ww => ∃ a1 c1, vv = .slice a1 p.props.length c1 ∧ ww.ownsRow w.heap.size 142 4 (.slice a1 p.props.length c1) p.props.length (PC p.props)) F rfl rfl (ex_call rfl rfl (gx_l1 (F.e rfl) gx_l0) fn_41) ((tolist_any s.pa s.pc p.props _ (hp.kept H.k).hp (by omega)).mono fun e9 ww h => by obtain ⟨a1, c1, h1, h2, h3⟩ := h; exact ⟨_, h1, ⟨a1, c1, rfl, og_base h2 H.size⟩, h3⟩) (fun _ hk => (H.kept hk)) ?_; clear F A; intro vv W A hR hk _ F; replace H := H.kept hk; obtain ⟨ap, cp, rfl, hP⟩ := hR
      replace hW := og_kept hW hk
      replace hC := og_kept hC hk
      clear hk
      refine hzh_do (v := (Pk.val ({ p with filters := [] }) ((⟨aw, cw, none, 0, ac, cc, ap, cp⟩ : Sl)))) (i := 52) F rfl rfl (by kernel_rfl) (fun _ _ _ h => h) (H) (fun wz H => (ex_build rfl (gx_p1 (F.e rfl) (gx_p1 (F.e rfl) (gx_p1 (F.e rfl) (gx_p1 (F.e rfl) (gx_p1 (F.e rfl) (gx_p1 (F.e rfl) (gx_p1 (F.e rfl) (gx_p1 (F.e rfl) (gx_p1 (F.e rfl) (gx_p1 (F.e rfl) (gx_p1 (F.e rfl) (gx_p1 (F.e rfl) (gx_p1 (F.e rfl) (gx_p1 (F.e rfl) (gx_p1 (F.e rfl) (gx_p1 (F.e rfl) (gx_p1 (F.e rfl) (gx_p1 (F.e rfl) (gx_p1 (F.e rfl) (gx_p1 (F.e rfl) (gx_p1 (F.e rfl) (gx_p1 (F.e rfl) (gx_p1 (F.e rfl) (gx_p1 (F.e rfl) gx_p0)))))))))))))))))))))))) (by kernel_rfl))) ?_; intro A F
      refine hb_one (i := 53) (by kernel_rfl) (hb_blk (i := 53) (c := zeroPk) (t := 33) (fun b9 => .pointer (some ⟨b9, 0, none⟩)) F H rfl rfl (ex_alloc rfl (al_33 _)) (fun _ _ H => H.tl) ?_); clear F A; intro b8 W A hk hN H9 F; clear H; have H := H9; clear H9
      replace hW := og_kept hW hk
      replace hC := og_kept hC hk
      replace hP := og_kept hP hk
      clear hk hN
      obtain ⟨W9, hr, hB, hk⟩ := gx_storeAgg (P := Tryz.prog) (S := 33) (c := (Pk.cells ({ p with filters := [] }) ((⟨aw, cw, none, 0, ac, cc, ap, cp⟩ : Sl)))) _ (H.b.at_ (j := 0) rfl).1 (gs_33 _) rfl (pk_one _ _)
      replace hW := og_far hW (H.b.at_ (j := 0) rfl).1 (show 33 ≠ 142 by decide) hk
      replace hC := og_far hC (H.b.at_ (j := 0) rfl).1 (show 33 ≠ 5 by decide) hk
      replace hP := og_far hP (H.b.at_ (j := 0) rfl).1 (show 33 ≠ 142 by decide) hk
      replace H : Hp _ _ [_, _, _] := Hp.turn [] H hk hB; clear hk hB
      refine hb_one (i := 54) (by kernel_rfl) (hb_st (i := 54) rfl (ex_store rfl (F.e rfl) (F.e rfl) hr) (H.tl) ?_); clear hr
      refine wpAnyH_done (by kernel_rfl) ?_ _
      exact hK4 _ _ ⟨b8, aw, cw, ac, cc, ap, cp, (((F.nil.cons (F.g 3 _ rfl)).cons (F.g 2 _ rfl)).cons (F.g 1 _ rfl)), H, hW, hC, hP⟩
     ·skip
      refine hb_blk (i := 53) (c := zeroPk) (t := 33) (fun b9 => .pointer (some ⟨b9, 0, none⟩)) F H rfl rfl (ex_alloc rfl (al_33 _)) (fun _ _ H => H.tl) ?_; clear F A; intro b9 W A hk hN H9 F; clear H; have H := H9; clear H9
      replace hW := og_kept hW hk
      replace hC := og_kept hC hk
      clear hk hN
      refine hb_one (i := 51) (by kernel_rfl) (hb_call (i := 51) (R := fun vv ww => ∃ a1 c1, vv = .slice a1 p.props.length c1 ∧ ww.ownsRow w.heap.size 142 4 (.slice a1 p.props.length c1) p.props.length (PC p.props)) F rfl rfl (ex_call rfl rfl (gx_l1 (F.e rfl) gx_l0) fn_41) ((tolist_any s.pa s.pc p.props _ (hp.kept H.k).hp (by omega)).mono fun e9 ww h => by obtain ⟨a1, c1, h1, h2, h3⟩ := h; exact ⟨_, h1, ⟨a1, c1, rfl, og_base h2 H.size⟩, h3⟩) (fun _ hk => (H.kept hk).tl) ?_); clear F A; intro vv W A hR hk _ F; replace H := H.kept hk; obtain ⟨ap, cp, rfl, hP⟩ := hR
      replace hW := og_kept hW hk
      replace hC := og_kept hC hk
      clear hk
      refine hzh_do (v := (Pk.val ({ p with filters := [] }) ((⟨aw, cw, none, 0, ac, cc, ap, cp⟩ : Sl)))) (i := 52) F rfl rfl (by kernel_rfl) (fun _ _ _ h => h) (H.tl) (fun wz H => (ex_build rfl (gx_p1 (F.e rfl) (gx_p1 (F.e rfl) (gx_p1 (F.e rfl) (gx_p1 (F.e rfl) (gx_p1 (F.e rfl) (gx_p1 (F.e rfl) (gx_p1 (F.e rfl) (gx_p1 (F.e rfl) (gx_p1 (F.e rfl) (gx_p1 (F.e rfl) (gx_p1 (F.e rfl) (gx_p1 (F.e rfl) (gx_p1 (F.e rfl) (gx_p1 (F.e rfl) (gx_p1 (F.e rfl) (gx_p1 (F.e rfl) (gx_p1 (F.e rfl) (gx_p1 (F.e rfl) (gx_p1 (F.e rfl) (gx_p1 (F.e rfl) (gx_p1 (F.e rfl) (gx_p1 (F.e rfl) (gx_p1 (F.e rfl) (gx_p1 (F.e rfl) gx_p0)))))))))))))))))))))))) (by kernel_rfl))) ?_; intro A F
      obtain ⟨W9, hr, hB, hk⟩ := gx_storeAgg (P := Tryz.prog) (S := 33) (c := (Pk.cells ({ p with filters := [] }) ((⟨aw, cw, none, 0, ac, cc, ap, cp⟩ : Sl)))) _ (H.b.at_ (j := 0) rfl).1 (gs_33 _) rfl (pk_one _ _)
      replace hW := og_far hW (H.b.at_ (j := 0) rfl).1 (show 33 ≠ 142 by decide) hk
      replace hC := og_far hC (H.b.at_ (j := 0) rfl).1 (show 33 ≠ 5 by decide) hk
      replace hP := og_far hP (H.b.at_ (j := 0) rfl).1 (show 33 ≠ 142 by decide) hk
      replace H : Hp _ _ [_, _, _] := Hp.turn [] H hk hB; clear hk hB
      refine hb_one (i := 54) (by kernel_rfl) (hb_st (i := 54) rfl (ex_store rfl (F.e rfl) (F.e rfl) hr) (H.tl) ?_); clear hr
      refine wpAnyH_done (by kernel_rfl) ?_ _
      exact hK4 _ _ ⟨b9, aw, cw, ac, cc, ap, cp, (((F.nil.cons (F.g 3 _ rfl)).cons (F.g 2 _ rfl)).cons (F.g 1 _ rfl)), H, hW, hC, hP⟩
    ·skip
     refine hb_blk (i := 53) (c := zeroPk) (t := 33) (fun b9 => .pointer (some ⟨b9, 0, none⟩)) F H rfl rfl (ex_alloc rfl (al_33 _)) (fun _ _ H => H.tl.tl) ?_; clear F A; intro b11 W A hk hN H9 F; clear H; have H := H9; clear H9
     replace hW := og_kept hW hk
     clear hk hN
     have hO := own_madeJ (k := 1) (m := 0) H (j := 1) rfl rfl (by decide)
     replace H : Hp _ _ [_, _, _] := Hp.del [_] H
     obtain ⟨v9, W9, hrun, hC, hg, _⟩ := append_bytes W w.heap.size b6 s.ca s.cc p.codes hO (hp.kept H.k).hc hcn (by omega) H.size
     have hkS : Kept (Sv (.slice (some ⟨b6, 0, none⟩) 0 0)) W W9 := kept_grown hg
     obtain ⟨ac, cc, hv9⟩ := own_slice hC; subst hv9
     replace hW := og_other hO hW (by decide) hkS
     replace H := Hp.grown H hO hkS (fa1 (sv_type hO (H.b.at_ (j := 0) rfl).1 (show 33 ≠ 5 by decide)) (fa1 (sv_type hO (H.b.at_ (j := 1) rfl).1 (show 33 ≠ 5 by decide)) (fa1 (sv_type hO (H.b.at_ (j := 2) rfl).1 (show 27 ≠ 5 by decide)) fa0)))
     refine hb_one (i := 48) (by kernel_rfl) (hb_new (i := 48) F rfl rfl (ex_builtin rfl (gx_l1 (F.e rfl) (gx_l1 (F.e rfl) gx_l0)) (fun cs => by simp only [builtin]; exact gx_val hrun)) (H.tl) ?_); intro A F
     clear hrun hg hkS hO; generalize W9 = W at *
     refine hb_one (i := 51) (by kernel_rfl) (hb_call (i := 51) (R := fun vv ww => ∃ a1 c1, vv = .slice a1 p.props.length c1 ∧ ww.ownsRow w.heap.size 142 4 (.slice a1 p.props.length c1) p.props.length (PC p.props)) F rfl rfl (ex_call rfl rfl (gx_l1 (F.e rfl) gx_l0) fn_41) ((tolist_any s.pa s.pc p.props _ (hp.kept H.k).hp (by omega)).mono fun e9 ww h => by obtain ⟨a1, c1, h1, h2, h3⟩ := h; exact ⟨_, h1, ⟨a1, c1, rfl, og_base h2 H.size⟩, h3⟩) (fun _ hk => (H.kept hk).tl) ?_); clear F A; intro vv W A hR hk _ F; replace H := H.kept hk; obtain ⟨ap, cp, rfl, hP⟩ := hR
     replace hW := og_kept hW hk
     replace hC := og_kept hC hk
     clear hk
     refine hzh_do (v := (Pk.val ({ p with filters := [] }) ((⟨aw, cw, none, 0, ac, cc, ap, cp⟩ : Sl)))) (i := 52) F rfl rfl (by kernel_rfl) (fun _ _ _ h => h) (H.tl) (fun wz H => (ex_build rfl (gx_p1 (F.e rfl) (gx_p1 (F.e rfl) (gx_p1 (F.e rfl) (gx_p1 (F.e rfl) (gx_p1 (F.e rfl) (gx_p1 (F.e rfl) (gx_p1 (F.e rfl) (gx_p1 (F.e rfl) (gx_p1 (F.e rfl) (gx_p1 (F.e rfl) (gx_p1 (F.e rfl) (gx_p1 (F.e rfl) (gx_p1 (F.e rfl) (gx_p1 (F.e rfl) (gx_p1 (F.e rfl) (gx_p1 (F.e rfl) (gx_p1 (F.e rfl) (gx_p1 (F.e rfl) (gx_p1 (F.e rfl) (gx_p1 (F.e rfl) (gx_p1 (F.e rfl) (gx_p1 (F.e rfl) (gx_p1 (F.e rfl) (gx_p1 (F.e rfl) gx_p0)))))))))))))))))))))))) (by kernel_rfl))) ?_; intro A F
     obtain ⟨W9, hr, hB, hk⟩ := gx_storeAgg (P := Tryz.prog) (S := 33) (c := (Pk.cells ({ p with filters := [] }) ((⟨aw, cw, none, 0, ac, cc, ap, cp⟩ : Sl)))) _ (H.b.at_ (j := 0) rfl).1 (gs_33 _) rfl (pk_one _ _)
     replace hW := og_far hW (H.b.at_ (j := 0) rfl).1 (show 33 ≠ 142 by decide) hk
     replace hC := og_far hC (H.b.at_ (j := 0) rfl).1 (show 33 ≠ 5 by decide) hk
     replace hP := og_far hP (H.b.at_ (j := 0) rfl).1 (show 33 ≠ 142 by decide) hk
     replace H : Hp _ _ [_, _, _] := Hp.turn [] H hk hB; clear hk hB
     refine hb_one (i := 54) (by kernel_rfl) (hb_st (i := 54) rfl (ex_store rfl (F.e rfl) (F.e rfl) hr) (H.tl) ?_); clear hr
     refine wpAnyH_done (by kernel_rfl) ?_ _
     exact hK4 _ _ ⟨b11, aw, cw, ac, cc, ap, cp, (((F.nil.cons (F.g 3 _ rfl)).cons (F.g 2 _ rfl)).cons (F.g 1 _ rfl)), H, hW, hC, hP⟩
   ·skip
    refine hb_blk (i := 53) (c := zeroPk) (t := 33) (fun b9 => .pointer (some ⟨b9, 0, none⟩)) F H rfl rfl (ex_alloc rfl (al_33 _)) (fun _ _ H => H.tl) ?_; clear F A; intro b13 W A hk hN H9 F; clear H; have H := H9; clear H9
    replace hW := og_kept hW hk
    clear hk hN
    refine hb_one (i := 45) (by kernel_rfl) (hb_blk (i := 45) (c := #[]) (t := 5) (fun b9 => .slice (some ⟨b9, 0, none⟩) 0 0) F H rfl rfl (ex_buildSlice rfl gx_p0 (by kernel_rfl)) (fun _ _ H => H.tl.tl) ?_); clear F A; intro b14 W A hk hN H9 F; clear H; have H := H9; clear H9
    replace hW := og_kept hW hk
    clear hk hN
    have hO := own_madeJ (k := 1) (m := 0) H (j := 0) rfl rfl (by decide)
    replace H : Hp _ _ [_, _, _] := Hp.del [] H
    obtain ⟨v9, W9, hrun, hC, hg, _⟩ := append_bytes W w.heap.size b14 s.ca s.cc p.codes hO (hp.kept H.k).hc hcn (by omega) H.size
    have hkS : Kept (Sv (.slice (some ⟨b14, 0, none⟩) 0 0)) W W9 := kept_grown hg
    obtain ⟨ac, cc, hv9⟩ := own_slice hC; subst hv9
    replace hW := og_other hO hW (by decide) hkS
    replace H := Hp.grown H hO hkS (fa1 (sv_type hO (H.b.at_ (j := 0) rfl).1 (show 33 ≠ 5 by decide)) (fa1 (sv_type hO (H.b.at_ (j := 1) rfl).1 (show 33 ≠ 5 by decide)) (fa1 (sv_type hO (H.b.at_ (j := 2) rfl).1 (show 27 ≠ 5 by decide)) fa0)))
    refine hb_one (i := 48) (by kernel_rfl) (hb_new (i := 48) F rfl rfl (ex_builtin rfl (gx_l1 (F.e rfl) (gx_l1 (F.e rfl) gx_l0)) (fun cs => by simp only [builtin]; exact gx_val hrun)) (H.tl) ?_); intro A F
    clear hrun hg hkS hO; generalize W9 = W at *
    refine hb_one (i := 51) (by kernel_rfl) (hb_call (i := 51) (R := fun vv ww => ∃ a1 c1, vv = .slice a1 p.props.length c1 ∧ ww.ownsRow w.heap.size 142 4 (.slice a1 p.props.length c1) p.props.length (PC p.props)) F rfl rfl (ex_call rfl rfl (gx_l1 (F.e rfl) gx_l0) fn_41) ((tolist_any s.pa s.pc p.props _ (hp.kept H.k).hp (by omega)).mono fun e9 ww h => by obtain ⟨a1, c1, h1, h2, h3⟩ := h; exact ⟨_, h1, ⟨a1, c1, rfl, og_base h2 H.size⟩, h3⟩) (fun _ hk => (H.kept hk).tl) ?_); clear F A; intro vv W A hR hk _ F; replace H := H.kept hk; obtain ⟨ap, cp, rfl, hP⟩ := hR
    replace hW := og_kept hW hk
    replace hC := og_kept hC hk
    clear hk
    refine hzh_do (v := (Pk.val ({ p with filters := [] }) ((⟨aw, cw, none, 0, ac, cc, ap, cp⟩ : Sl)))) (i := 52) F rfl rfl (by kernel_rfl) (fun _ _ _ h => h) (H.tl) (fun wz H => (ex_build rfl (gx_p1 (F.e rfl) (gx_p1 (F.e rfl) (gx_p1 (F.e rfl) (gx_p1 (F.e rfl) (gx_p1 (F.e rfl) (gx_p1 (F.e rfl) (gx_p1 (F.e rfl) (gx_p1 (F.e rfl) (gx_p1 (F.e rfl) (gx_p1 (F.e rfl) (gx_p1 (F.e rfl) (gx_p1 (F.e rfl) (gx_p1 (F.e rfl) (gx_p1 (F.e rfl) (gx_p1 (F.e rfl) (gx_p1 (F.e rfl) (gx_p1 (F.e rfl) (gx_p1 (F.e rfl) (gx_p1 (F.e rfl) (gx_p1 (F.e rfl) (gx_p1 (F.e rfl) (gx_p1 (F.e rfl) (gx_p1 (F.e rfl) (gx_p1 (F.e rfl) gx_p0)))))))))))))))))))))))) (by kernel_rfl))) ?_; intro A F
    obtain ⟨W9, hr, hB, hk⟩ := gx_storeAgg (P := Tryz.prog) (S := 33) (c := (Pk.cells ({ p with filters := [] }) ((⟨aw, cw, none, 0, ac, cc, ap, cp⟩ : Sl)))) _ (H.b.at_ (j := 0) rfl).1 (gs_33 _) rfl (pk_one _ _)
    replace hW := og_far hW (H.b.at_ (j := 0) rfl).1 (show 33 ≠ 142 by decide) hk
    replace hC := og_far hC (H.b.at_ (j := 0) rfl).1 (show 33 ≠ 5 by decide) hk
    replace hP := og_far hP (H.b.at_ (j := 0) rfl).1 (show 33 ≠ 142 by decide) hk
    replace H : Hp _ _ [_, _, _] := Hp.turn [] H hk hB; clear hk hB
    refine hb_one (i := 54) (by kernel_rfl) (hb_st (i := 54) rfl (ex_store rfl (F.e rfl) (F.e rfl) hr) (H.tl) ?_); clear hr
    refine wpAnyH_done (by kernel_rfl) ?_ _
    exact hK4 _ _ ⟨b13, aw, cw, ac, cc, ap, cp, (((F.nil.cons (F.g 3 _ rfl)).cons (F.g 2 _ rfl)).cons (F.g 1 _ rfl)), H, hW, hC, hP⟩
  ·skip
   refine hb_blk (i := 45) (c := #[]) (t := 5) (fun b9 => .slice (some ⟨b9, 0, none⟩) 0 0) F H rfl rfl (ex_buildSlice rfl gx_p0 (by kernel_rfl)) (fun _ _ H => H.tl) ?_; clear F A; intro b16 W A hk hN H9 F; clear H; have H := H9; clear H9
   clear hk hN
   refine hb_two (i := 28) (j := 53) (by kernel_rfl) ?_ ?_
   ·skip
    refine hb_call (i := 28) (R := fun vv ww => ∃ a1 c1, vv = .slice a1 p.willProps.length c1 ∧ ww.ownsRow w.heap.size 142 4 (.slice a1 p.willProps.length c1) p.willProps.length (PC p.willProps)) F rfl rfl (ex_call rfl rfl (gx_l1 (F.e rfl) gx_l0) fn_41) ((tolist_any s.wa s.wc p.willProps _ (hp.kept H.k).hw (by omega)).mono fun e9 ww h => by obtain ⟨a1, c1, h1, h2, h3⟩ := h; exact ⟨_, h1, ⟨a1, c1, rfl, og_base h2 H.size⟩, h3⟩) (fun _ hk => (H.kept hk).tl) ?_; clear F A; intro vv W A hR hk _ F; replace H := H.kept hk; obtain ⟨aw, cw, rfl, hW⟩ := hR
    clear hk
    refine hb_two (i := 48) (j := 53) (by kernel_rfl) ?_ ?_
    ·skip
     have hO := own_madeJ (k := 1) (m := 0) H (j := 0) rfl rfl (by decide)
     replace H : Hp _ _ [_, _] := Hp.del [] H
     obtain ⟨v9, W9, hrun, hC, hg, _⟩ := append_bytes W w.heap.size b16 s.ca s.cc p.codes hO (hp.kept H.k).hc hcn (by omega) H.size
     have hkS : Kept (Sv (.slice (some ⟨b16, 0, none⟩) 0 0)) W W9 := kept_grown hg
     obtain ⟨ac, cc, hv9⟩ := own_slice hC; subst hv9
     replace hW := og_other hO hW (by decide) hkS
     replace H := Hp.grown H hO hkS (fa1 (sv_type hO (H.b.at_ (j := 0) rfl).1 (show 33 ≠ 5 by decide)) (fa1 (sv_type hO (H.b.at_ (j := 1) rfl).1 (show 27 ≠ 5 by decide)) fa0))
     refine hb_new (i := 48) F rfl rfl (ex_builtin rfl (gx_l1 (F.e rfl) (gx_l1 (F.e rfl) gx_l0)) (fun cs => by simp only [builtin]; exact gx_val hrun)) (H) ?_; intro A F
     clear hrun hg hkS hO; generalize W9 = W at *
     refine hb_two (i := 51) (j := 53) (by kernel_rfl) ?_ ?_
     ·skip
      refine hb_call (i := 51) (R := fun vv ww => ∃ a1 c1, vv = .slice a1 p.props.length c1 ∧ ww.ownsRow w.heap.size 142 4 (.slice a1 p.props.length c1) p.props.length (PC p.props)) F rfl rfl (ex_call rfl rfl (gx_l1 (F.e rfl) gx_l0) fn_41) ((tolist_any s.pa s.pc p.props _ (hp.kept H.k).hp (by omega)).mono fun e9 ww h => by obtain ⟨a1, c1, h1, h2, h3⟩ := h; exact ⟨_, h1, ⟨a1, c1, rfl, og_base h2 H.size⟩, h3⟩) (fun _ hk => (H.kept hk)) ?_; clear F A; intro vv W A hR hk _ F; replace H := H.kept hk; obtain ⟨ap, cp, rfl, hP⟩ := hR
      replace hW := og_kept hW hk
      replace hC := og_kept hC hk
      clear hk
      refine hzh_do (v := (Pk.val ({ p with filters := [] }) ((⟨aw, cw, none, 0, ac, cc, ap, cp⟩ : Sl)))) (i := 52) F rfl rfl (by kernel_rfl) (fun _ _ _ h => h) (H) (fun wz H => (ex_build rfl (gx_p1 (F.e rfl) (gx_p1 (F.e rfl) (gx_p1 (F.e rfl) (gx_p1 (F.e rfl) (gx_p1 (F.e rfl) (gx_p1 (F.e rfl) (gx_p1 (F.e rfl) (gx_p1 (F.e rfl) (gx_p1 (F.e rfl) (gx_p1 (F.e rfl) (gx_p1 (F.e rfl) (gx_p1 (F.e rfl) (gx_p1 (F.e rfl) (gx_p1 (F.e rfl) (gx_p1 (F.e rfl) (gx_p1 (F.e rfl) (gx_p1 (F.e rfl) (gx_p1 (F.e rfl) (gx_p1 (F.e rfl) (gx_p1 (F.e rfl) (gx_p1 (F.e rfl) (gx_p1 (F.e rfl) (gx_p1 (F.e rfl) (gx_p1 (F.e rfl) gx_p0)))))))))))))))))))))))) (by kernel_rfl))) ?_; intro A F
      refine hb_one (i := 53) (by kernel_rfl) (hb_blk (i := 53) (c := zeroPk) (t := 33) (fun b9 => .pointer (some ⟨b9, 0, none⟩)) F H rfl rfl (ex_alloc rfl (al_33 _)) (fun _ _ H => H.tl) ?_); clear F A; intro b19 W A hk hN H9 F; clear H; have H := H9; clear H9
      replace hW := og_kept hW hk
      replace hC := og_kept hC hk
      replace hP := og_kept hP hk
      clear hk hN
      obtain ⟨W9, hr, hB, hk⟩ := gx_storeAgg (P := Tryz.prog) (S := 33) (c := (Pk.cells ({ p with filters := [] }) ((⟨aw, cw, none, 0, ac, cc, ap, cp⟩ : Sl)))) _ (H.b.at_ (j := 0) rfl).1 (gs_33 _) rfl (pk_one _ _)
      replace hW := og_far hW (H.b.at_ (j := 0) rfl).1 (show 33 ≠ 142 by decide) hk
      replace hC := og_far hC (H.b.at_ (j := 0) rfl).1 (show 33 ≠ 5 by decide) hk
      replace hP := og_far hP (H.b.at_ (j := 0) rfl).1 (show 33 ≠ 142 by decide) hk
      replace H : Hp _ _ [_, _, _] := Hp.turn [] H hk hB; clear hk hB
      refine hb_one (i := 54) (by kernel_rfl) (hb_st (i := 54) rfl (ex_store rfl (F.e rfl) (F.e rfl) hr) (H.tl) ?_); clear hr
      refine wpAnyH_done (by kernel_rfl) ?_ _
      exact hK4 _ _ ⟨b19, aw, cw, ac, cc, ap, cp, (((F.nil.cons (F.g 3 _ rfl)).cons (F.g 2 _ rfl)).cons (F.g 1 _ rfl)), H, hW, hC, hP⟩
     ·skip
      refine hb_blk (i := 53) (c := zeroPk) (t := 33) (fun b9 => .pointer (some ⟨b9, 0, none⟩)) F H rfl rfl (ex_alloc rfl (al_33 _)) (fun _ _ H => H.tl) ?_; clear F A; intro b20 W A hk hN H9 F; clear H; have H := H9; clear H9
      replace hW := og_kept hW hk
      replace hC := og_kept hC hk
      clear hk hN
      refine hb_one (i := 51) (by kernel_rfl) (hb_call (i := 51) (R := fun vv ww => ∃ a1 c1, vv = .slice a1 p.props.length c1 ∧ ww.ownsRow w.heap.size 142 4 (.slice a1 p.props.length c1) p.props.length (PC p.props)) F rfl rfl (ex_call rfl rfl (gx_l1 (F.e rfl) gx_l0) fn_41) ((tolist_any s.pa s.pc p.props _ (hp.kept H.k).hp (by omega)).mono fun e9 ww h => by obtain ⟨a1, c1, h1, h2, h3⟩ := h; exact ⟨_, h1, ⟨a1, c1, rfl, og_base h2 H.size⟩, h3⟩) (fun _ hk => (H.kept hk).tl) ?_); clear F A; intro vv W A hR hk _ F; replace H := H.kept hk; obtain ⟨ap, cp, rfl, hP⟩ := hR
      replace hW := og_kept hW hk
      replace hC := og_kept hC hk
      clear hk
      refine hzh_do (v := (Pk.val ({ p with filters := [] }) ((⟨aw, cw, none, 0, ac, cc, ap, cp⟩ : Sl)))) (i := 52) F rfl rfl (by kernel_rfl) (fun _ _ _ h => h) (H.tl) (fun wz H => (ex_build rfl (gx_p1 (F.e rfl) (gx_p1 (F.e rfl) (gx_p1 (F.e rfl) (gx_p1 (F.e rfl) (gx_p1 (F.e rfl) (gx_p1 (F.e rfl) (gx_p1 (F.e rfl) (gx_p1 (F.e rfl) (gx_p1 (F.e rfl) (gx_p1 (F.e rfl) (gx_p1 (F.e rfl) (gx_p1 (F.e rfl) (gx_p1 (F.e rfl) (gx_p1 (F.e rfl) (gx_p1 (F.e rfl) (gx_p1 (F.e rfl) (gx_p1 (F.e rfl) (gx_p1 (F.e rfl) (gx_p1 (F.e rfl) (gx_p1 (F.e rfl) (gx_p1 (F.e rfl) (gx_p1 (F.e rfl) (gx_p1 (F.e rfl) (gx_p1 (F.e rfl) gx_p0)))))))))))))))))))))))) (by kernel_rfl))) ?_; intro A F
      obtain ⟨W9, hr, hB, hk⟩ := gx_storeAgg (P := Tryz.prog) (S := 33) (c := (Pk.cells ({ p with filters := [] }) ((⟨aw, cw, none, 0, ac, cc, ap, cp⟩ : Sl)))) _ (H.b.at_ (j := 0) rfl).1 (gs_33 _) rfl (pk_one _ _)
      replace hW := og_far hW (H.b.at_ (j := 0) rfl).1 (show 33 ≠ 142 by decide) hk
      replace hC := og_far hC (H.b.at_ (j := 0) rfl).1 (show 33 ≠ 5 by decide) hk
      replace hP := og_far hP (H.b.at_ (j := 0) rfl).1 (show 33 ≠ 142 by decide) hk
      replace H : Hp _ _ [_, _, _] := Hp.turn [] H hk hB; clear hk hB
      refine hb_one (i := 54) (by kernel_rfl) (hb_st (i := 54) rfl (ex_store rfl (F.e rfl) (F.e rfl) hr) (H.tl) ?_); clear hr
      refine wpAnyH_done (by kernel_rfl) ?_ _
      exact hK4 _ _ ⟨b20, aw, cw, ac, cc, ap, cp, (((F.nil.cons (F.g 3 _ rfl)).cons (F.g 2 _ rfl)).cons (F.g 1 _ rfl)), H, hW, hC, hP⟩
    ·skip
     refine hb_blk (i := 53) (c := zeroPk) (t := 33) (fun b9 => .pointer (some ⟨b9, 0, none⟩)) F H rfl rfl (ex_alloc rfl (al_33 _)) (fun _ _ H => H.tl.tl) ?_; clear F A; intro b22 W A hk hN H9 F; clear H; have H := H9; clear H9
     replace hW := og_kept hW hk
     clear hk hN
     have hO := own_madeJ (k := 1) (m := 0) H (j := 1) rfl rfl (by decide)
     replace H : Hp _ _ [_, _, _] := Hp.del [_] H
     obtain ⟨v9, W9, hrun, hC, hg, _⟩ := append_bytes W w.heap.size b16 s.ca s.cc p.codes hO (hp.kept H.k).hc hcn (by omega) H.size
     have hkS : Kept (Sv (.slice (some ⟨b16, 0, none⟩) 0 0)) W W9 := kept_grown hg
     obtain ⟨ac, cc, hv9⟩ := own_slice hC; subst hv9
     replace hW := og_other hO hW (by decide) hkS
     replace H := Hp.grown H hO hkS (fa1 (sv_type hO (H.b.at_ (j := 0) rfl).1 (show 33 ≠ 5 by decide)) (fa1 (sv_type hO (H.b.at_ (j := 1) rfl).1 (show 33 ≠ 5 by decide)) (fa1 (sv_type hO (H.b.at_ (j := 2) rfl).1 (show 27 ≠ 5 by decide)) fa0)))
     refine hb_one (i := 48) (by kernel_rfl) (hb_new (i := 48) F rfl rfl (ex_builtin rfl (gx_l1 (F.e rfl) (gx_l1 (F.e rfl) gx_l0)) (fun cs => by simp only [builtin]; exact gx_val hrun)) (H.tl) ?_); intro A F
     clear hrun hg hkS hO; generalize W9 = W at *
     refine hb_one (i := 51) (by kernel_rfl) (hb_call (i := 51) (R := fun vv ww => ∃ a1 c1, vv = .slice a1 p.props.length c1 ∧ ww.ownsRow w.heap.size 142 4 (.slice a1 p.props.length c1) p.props.length (PC p.props)) F rfl rfl (ex_call rfl rfl (gx_l1 (F.e rfl) gx_l0) fn_41) ((tolist_any s.pa s.pc p.props _ (hp.kept H.k).hp (by omega)).mono fun e9 ww h => by obtain ⟨a1, c1, h1, h2, h3⟩ := h; exact ⟨_, h1, ⟨a1, c1, rfl, og_base h2 H.size⟩, h3⟩) (fun _ hk => (H.kept hk).tl) ?_); clear F A; intro vv W A hR hk _ F; replace H := H.kept hk; obtain ⟨ap, cp, rfl, hP⟩ := hR
     replace hW := og_kept hW hk
     replace hC := og_kept hC hk
     clear hk
     refine hzh_do (v := (Pk.val ({ p with filters := [] }) ((⟨aw, cw, none, 0, ac, cc, ap, cp⟩ : Sl)))) (i := 52) F rfl rfl (by kernel_rfl) (fun _ _ _ h => h) (H.tl) (fun wz H => (ex_build rfl (gx_p1 (F.e rfl) (gx_p1 (F.e rfl) (gx_p1 (F.e rfl) (gx_p1 (F.e rfl) (gx_p1 (F.e rfl) (gx_p1 (F.e rfl) (gx_p1 (F.e rfl) (gx_p1 (F.e rfl) (gx_p1 (F.e rfl) (gx_p1 (F.e rfl) (gx_p1 (F.e rfl) (gx_p1 (F.e rfl) (gx_p1 (F.e rfl) (gx_p1 (F.e rfl) (gx_p1 (F.e rfl) (gx_p1 (F.e rfl) (gx_p1 (F.e rfl) (gx_p1 (F.e rfl) (gx_p1 (F.e rfl) (gx_p1 (F.e rfl) (gx_p1 (F.e rfl) (gx_p1 (F.e rfl) (gx_p1 (F.e rfl) (gx_p1 (F.e rfl) gx_p0)))))))))))))))))))))))) (by kernel_rfl))) ?_; intro A F
     obtain ⟨W9, hr, hB, hk⟩ := gx_storeAgg (P := Tryz.prog) (S := 33) (c := (Pk.cells ({ p with filters := [] }) ((⟨aw, cw, none, 0, ac, cc, ap, cp⟩ : Sl)))) _ (H.b.at_ (j := 0) rfl).1 (gs_33 _) rfl (pk_one _ _)
     replace hW := og_far hW (H.b.at_ (j := 0) rfl).1 (show 33 ≠ 142 by decide) hk
     replace hC := og_far hC (H.b.at_ (j := 0) rfl).1 (show 33 ≠ 5 by decide) hk
     replace hP := og_far hP (H.b.at_ (j := 0) rfl).1 (show 33 ≠ 142 by decide) hk
     replace H : Hp _ _ [_, _, _] := Hp.turn [] H hk hB; clear hk hB
     refine hb_one (i := 54) (by kernel_rfl) (hb_st (i := 54) rfl (ex_store rfl (F.e rfl) (F.e rfl) hr) (H.tl) ?_); clear hr
     refine wpAnyH_done (by kernel_rfl) ?_ _
     exact hK4 _ _ ⟨b22, aw, cw, ac, cc, ap, cp, (((F.nil.cons (F.g 3 _ rfl)).cons (F.g 2 _ rfl)).cons (F.g 1 _ rfl)), H, hW, hC, hP⟩
   ·skip
    refine hb_blk (i := 53) (c := zeroPk) (t := 33) (fun b9 => .pointer (some ⟨b9, 0, none⟩)) F H rfl rfl (ex_alloc rfl (al_33 _)) (fun _ _ H => H.tl.tl) ?_; clear F A; intro b24 W A hk hN H9 F; clear H; have H := H9; clear H9
    clear hk hN
    refine hb_one (i := 28) (by kernel_rfl) (hb_call (i := 28) (R := fun vv ww => ∃ a1 c1, vv = .slice a1 p.willProps.length c1 ∧ ww.ownsRow w.heap.size 142 4 (.slice a1 p.willProps.length c1) p.willProps.length (PC p.willProps)) F rfl rfl (ex_call rfl rfl (gx_l1 (F.e rfl) gx_l0) fn_41) ((tolist_any s.wa s.wc p.willProps _ (hp.kept H.k).hw (by omega)).mono fun e9 ww h => by obtain ⟨a1, c1, h1, h2, h3⟩ := h; exact ⟨_, h1, ⟨a1, c1, rfl, og_base h2 H.size⟩, h3⟩) (fun _ hk => (H.kept hk).tl.tl) ?_); clear F A; intro vv W A hR hk _ F; replace H := H.kept hk; obtain ⟨aw, cw, rfl, hW⟩ := hR
    clear hk
    have hO := own_madeJ (k := 1) (m := 0) H (j := 1) rfl rfl (by decide)
    replace H : Hp _ _ [_, _, _] := Hp.del [_] H
    obtain ⟨v9, W9, hrun, hC, hg, _⟩ := append_bytes W w.heap.size b16 s.ca s.cc p.codes hO (hp.kept H.k).hc hcn (by omega) H.size
    have hkS : Kept (Sv (.slice (some ⟨b16, 0, none⟩) 0 0)) W W9 := kept_grown hg
    obtain ⟨ac, cc, hv9⟩ := own_slice hC; subst hv9
    replace hW := og_other hO hW (by decide) hkS
    replace H := Hp.grown H hO hkS (fa1 (sv_type hO (H.b.at_ (j := 0) rfl).1 (show 33 ≠ 5 by decide)) (fa1 (sv_type hO (H.b.at_ (j := 1) rfl).1 (show 33 ≠ 5 by decide)) (fa1 (sv_type hO (H.b.at_ (j := 2) rfl).1 (show 27 ≠ 5 by decide)) fa0)))
    refine hb_one (i := 48) (by kernel_rfl) (hb_new (i := 48) F rfl rfl (ex_builtin rfl (gx_l1 (F.e rfl) (gx_l1 (F.e rfl) gx_l0)) (fun cs => by simp only [builtin]; exact gx_val hrun)) (H.tl) ?_); intro A F
    clear hrun hg hkS hO; generalize W9 = W at *
    refine hb_one (i := 51) (by kernel_rfl) (hb_call (i := 51) (R := fun vv ww => ∃ a1 c1, vv = .slice a1 p.props.length c1 ∧ ww.ownsRow w.heap.size 142 4 (.slice a1 p.props.length c1) p.props.length (PC p.props)) F rfl rfl (ex_call rfl rfl (gx_l1 (F.e rfl) gx_l0) fn_41) ((tolist_any s.pa s.pc p.props _ (hp.kept H.k).hp (by omega)).mono fun e9 ww h => by obtain ⟨a1, c1, h1, h2, h3⟩ := h; exact ⟨_, h1, ⟨a1, c1, rfl, og_base h2 H.size⟩, h3⟩) (fun _ hk => (H.kept hk).tl) ?_); clear F A; intro vv W A hR hk _ F; replace H := H.kept hk; obtain ⟨ap, cp, rfl, hP⟩ := hR
    replace hW := og_kept hW hk
    replace hC := og_kept hC hk
    clear hk
    refine hzh_do (v := (Pk.val ({ p with filters := [] }) ((⟨aw, cw, none, 0, ac, cc, ap, cp⟩ : Sl)))) (i := 52) F rfl rfl (by kernel_rfl) (fun _ _ _ h => h) (H.tl) (fun wz H => (ex_build rfl (gx_p1 (F.e rfl) (gx_p1 (F.e rfl) (gx_p1 (F.e rfl) (gx_p1 (F.e rfl) (gx_p1 (F.e rfl) (gx_p1 (F.e rfl) (gx_p1 (F.e rfl) (gx_p1 (F.e rfl) (gx_p1 (F.e rfl) (gx_p1 (F.e rfl) (gx_p1 (F.e rfl) (gx_p1 (F.e rfl) (gx_p1 (F.e rfl) (gx_p1 (F.e rfl) (gx_p1 (F.e rfl) (gx_p1 (F.e rfl) (gx_p1 (F.e rfl) (gx_p1 (F.e rfl) (gx_p1 (F.e rfl) (gx_p1 (F.e rfl) (gx_p1 (F.e rfl) (gx_p1 (F.e rfl) (gx_p1 (F.e rfl) (gx_p1 (F.e rfl) gx_p0)))))))))))))))))))))))) (by kernel_rfl))) ?_; intro A F
    obtain ⟨W9, hr, hB, hk⟩ := gx_storeAgg (P := Tryz.prog) (S := 33) (c := (Pk.cells ({ p with filters := [] }) ((⟨aw, cw, none, 0, ac, cc, ap, cp⟩ : Sl)))) _ (H.b.at_ (j := 0) rfl).1 (gs_33 _) rfl (pk_one _ _)
    replace hW := og_far hW (H.b.at_ (j := 0) rfl).1 (show 33 ≠ 142 by decide) hk
    replace hC := og_far hC (H.b.at_ (j := 0) rfl).1 (show 33 ≠ 5 by decide) hk
    replace hP := og_far hP (H.b.at_ (j := 0) rfl).1 (show 33 ≠ 142 by decide) hk
    replace H : Hp _ _ [_, _, _] := Hp.turn [] H hk hB; clear hk hB
    refine hb_one (i := 54) (by kernel_rfl) (hb_st (i := 54) rfl (ex_store rfl (F.e rfl) (F.e rfl) hr) (H.tl) ?_); clear hr
    refine wpAnyH_done (by kernel_rfl) ?_ _
    exact hK4 _ _ ⟨b24, aw, cw, ac, cc, ap, cp, (((F.nil.cons (F.g 3 _ rfl)).cons (F.g 2 _ rfl)).cons (F.g 1 _ rfl)), H, hW, hC, hP⟩
  ·skip
   refine hb_blk (i := 53) (c := zeroPk) (t := 33) (fun b9 => .pointer (some ⟨b9, 0, none⟩)) F H rfl rfl (ex_alloc rfl (al_33 _)) (fun _ _ H => H.tl) ?_; clear F A; intro b27 W A hk hN H9 F; clear H; have H := H9; clear H9
   clear hk hN
   refine hb_two (i := 28) (j := 45) (by kernel_rfl) ?_ ?_
   ·skip
    refine hb_call (i := 28) (R := fun vv ww => ∃ a1 c1, vv = .slice a1 p.willProps.length c1 ∧ ww.ownsRow w.heap.size 142 4 (.slice a1 p.willProps.length c1) p.willProps.length (PC p.willProps)) F rfl rfl (ex_call rfl rfl (gx_l1 (F.e rfl) gx_l0) fn_41) ((tolist_any s.wa s.wc p.willProps _ (hp.kept H.k).hw (by omega)).mono fun e9 ww h => by obtain ⟨a1, c1, h1, h2, h3⟩ := h; exact ⟨_, h1, ⟨a1, c1, rfl, og_base h2 H.size⟩, h3⟩) (fun _ hk => (H.kept hk).tl) ?_; clear F A; intro vv W A hR hk _ F; replace H := H.kept hk; obtain ⟨aw, cw, rfl, hW⟩ := hR
    clear hk
    refine hb_one (i := 45) (by kernel_rfl) (hb_blk (i := 45) (c := #[]) (t := 5) (fun b9 => .slice (some ⟨b9, 0, none⟩) 0 0) F H rfl rfl (ex_buildSlice rfl gx_p0 (by kernel_rfl)) (fun _ _ H => H.tl.tl) ?_); clear F A; intro b29 W A hk hN H9 F; clear H; have H := H9; clear H9
    replace hW := og_kept hW hk
    clear hk hN
    have hO := own_madeJ (k := 1) (m := 0) H (j := 0) rfl rfl (by decide)
    replace H : Hp _ _ [_, _, _] := Hp.del [] H
    obtain ⟨v9, W9, hrun, hC, hg, _⟩ := append_bytes W w.heap.size b29 s.ca s.cc p.codes hO (hp.kept H.k).hc hcn (by omega) H.size
    have hkS : Kept (Sv (.slice (some ⟨b29, 0, none⟩) 0 0)) W W9 := kept_grown hg
    obtain ⟨ac, cc, hv9⟩ := own_slice hC; subst hv9
    replace hW := og_other hO hW (by decide) hkS
    replace H := Hp.grown H hO hkS (fa1 (sv_type hO (H.b.at_ (j := 0) rfl).1 (show 33 ≠ 5 by decide)) (fa1 (sv_type hO (H.b.at_ (j := 1) rfl).1 (show 33 ≠ 5 by decide)) (fa1 (sv_type hO (H.b.at_ (j := 2) rfl).1 (show 27 ≠ 5 by decide)) fa0)))
    refine hb_one (i := 48) (by kernel_rfl) (hb_new (i := 48) F rfl rfl (ex_builtin rfl (gx_l1 (F.e rfl) (gx_l1 (F.e rfl) gx_l0)) (fun cs => by simp only [builtin]; exact gx_val hrun)) (H.tl) ?_); intro A F
    clear hrun hg hkS hO; generalize W9 = W at *
    refine hb_one (i := 51) (by kernel_rfl) (hb_call (i := 51) (R := fun vv ww => ∃ a1 c1, vv = .slice a1 p.props.length c1 ∧ ww.ownsRow w.heap.size 142 4 (.slice a1 p.props.length c1) p.props.length (PC p.props)) F rfl rfl (ex_call rfl rfl (gx_l1 (F.e rfl) gx_l0) fn_41) ((tolist_any s.pa s.pc p.props _ (hp.kept H.k).hp (by omega)).mono fun e9 ww h => by obtain ⟨a1, c1, h1, h2, h3⟩ := h; exact ⟨_, h1, ⟨a1, c1, rfl, og_base h2 H.size⟩, h3⟩) (fun _ hk => (H.kept hk).tl) ?_); clear F A; intro vv W A hR hk _ F; replace H := H.kept hk; obtain ⟨ap, cp, rfl, hP⟩ := hR
    replace hW := og_kept hW hk
    replace hC := og_kept hC hk
    clear hk
    refine hzh_do (v := (Pk.val ({ p with filters := [] }) ((⟨aw, cw, none, 0, ac, cc, ap, cp⟩ : Sl)))) (i := 52) F rfl rfl (by kernel_rfl) (fun _ _ _ h => h) (H.tl) (fun wz H => (ex_build rfl (gx_p1 (F.e rfl) (gx_p1 (F.e rfl) (gx_p1 (F.e rfl) (gx_p1 (F.e rfl) (gx_p1 (F.e rfl) (gx_p1 (F.e rfl) (gx_p1 (F.e rfl) (gx_p1 (F.e rfl) (gx_p1 (F.e rfl) (gx_p1 (F.e rfl) (gx_p1 (F.e rfl) (gx_p1 (F.e rfl) (gx_p1 (F.e rfl) (gx_p1 (F.e rfl) (gx_p1 (F.e rfl) (gx_p1 (F.e rfl) (gx_p1 (F.e rfl) (gx_p1 (F.e rfl) (gx_p1 (F.e rfl) (gx_p1 (F.e rfl) (gx_p1 (F.e rfl) (gx_p1 (F.e rfl) (gx_p1 (F.e rfl) (gx_p1 (F.e rfl) gx_p0)))))))))))))))))))))))) (by kernel_rfl))) ?_; intro A F
    obtain ⟨W9, hr, hB, hk⟩ := gx_storeAgg (P := Tryz.prog) (S := 33) (c := (Pk.cells ({ p with filters := [] }) ((⟨aw, cw, none, 0, ac, cc, ap, cp⟩ : Sl)))) _ (H.b.at_ (j := 0) rfl).1 (gs_33 _) rfl (pk_one _ _)
    replace hW := og_far hW (H.b.at_ (j := 0) rfl).1 (show 33 ≠ 142 by decide) hk
    replace hC := og_far hC (H.b.at_ (j := 0) rfl).1 (show 33 ≠ 5 by decide) hk
    replace hP := og_far hP (H.b.at_ (j := 0) rfl).1 (show 33 ≠ 142 by decide) hk
    replace H : Hp _ _ [_, _, _] := Hp.turn [] H hk hB; clear hk hB
    refine hb_one (i := 54) (by kernel_rfl) (hb_st (i := 54) rfl (ex_store rfl (F.e rfl) (F.e rfl) hr) (H.tl) ?_); clear hr
    refine wpAnyH_done (by kernel_rfl) ?_ _
    exact hK4 _ _ ⟨b27, aw, cw, ac, cc, ap, cp, (((F.nil.cons (F.g 3 _ rfl)).cons (F.g 2 _ rfl)).cons (F.g 1 _ rfl)), H, hW, hC, hP⟩
   ·skip
    refine hb_blk (i := 45) (c := #[]) (t := 5) (fun b9 => .slice (some ⟨b9, 0, none⟩) 0 0) F H rfl rfl (ex_buildSlice rfl gx_p0 (by kernel_rfl)) (fun _ _ H => H.tl.tl) ?_; clear F A; intro b31 W A hk hN H9 F; clear H; have H := H9; clear H9
    clear hk hN
    refine hb_one (i := 28) (by kernel_rfl) (hb_call (i := 28) (R := fun vv ww => ∃ a1 c1, vv = .slice a1 p.willProps.length c1 ∧ ww.ownsRow w.heap.size 142 4 (.slice a1 p.willProps.length c1) p.willProps.length (PC p.willProps)) F rfl rfl (ex_call rfl rfl (gx_l1 (F.e rfl) gx_l0) fn_41) ((tolist_any s.wa s.wc p.willProps _ (hp.kept H.k).hw (by omega)).mono fun e9 ww h => by obtain ⟨a1, c1, h1, h2, h3⟩ := h; exact ⟨_, h1, ⟨a1, c1, rfl, og_base h2 H.size⟩, h3⟩) (fun _ hk => (H.kept hk).tl.tl) ?_); clear F A; intro vv W A hR hk _ F; replace H := H.kept hk; obtain ⟨aw, cw, rfl, hW⟩ := hR
    clear hk
    have hO := own_madeJ (k := 1) (m := 0) H (j := 0) rfl rfl (by decide)
    replace H : Hp _ _ [_, _, _] := Hp.del [] H
    obtain ⟨v9, W9, hrun, hC, hg, _⟩ := append_bytes W w.heap.size b31 s.ca s.cc p.codes hO (hp.kept H.k).hc hcn (by omega) H.size
    have hkS : Kept (Sv (.slice (some ⟨b31, 0, none⟩) 0 0)) W W9 := kept_grown hg
    obtain ⟨ac, cc, hv9⟩ := own_slice hC; subst hv9
    replace hW := og_other hO hW (by decide) hkS
    replace H := Hp.grown H hO hkS (fa1 (sv_type hO (H.b.at_ (j := 0) rfl).1 (show 33 ≠ 5 by decide)) (fa1 (sv_type hO (H.b.at_ (j := 1) rfl).1 (show 33 ≠ 5 by decide)) (fa1 (sv_type hO (H.b.at_ (j := 2) rfl).1 (show 27 ≠ 5 by decide)) fa0)))
    refine hb_one (i := 48) (by kernel_rfl) (hb_new (i := 48) F rfl rfl (ex_builtin rfl (gx_l1 (F.e rfl) (gx_l1 (F.e rfl) gx_l0)) (fun cs => by simp only [builtin]; exact gx_val hrun)) (H.tl) ?_); intro A F
    clear hrun hg hkS hO; generalize W9 = W at *
    refine hb_one (i := 51) (by kernel_rfl) (hb_call (i := 51) (R := fun vv ww => ∃ a1 c1, vv = .slice a1 p.props.length c1 ∧ ww.ownsRow w.heap.size 142 4 (.slice a1 p.props.length c1) p.props.length (PC p.props)) F rfl rfl (ex_call rfl rfl (gx_l1 (F.e rfl) gx_l0) fn_41) ((tolist_any s.pa s.pc p.props _ (hp.kept H.k).hp (by omega)).mono fun e9 ww h => by obtain ⟨a1, c1, h1, h2, h3⟩ := h; exact ⟨_, h1, ⟨a1, c1, rfl, og_base h2 H.size⟩, h3⟩) (fun _ hk => (H.kept hk).tl) ?_); clear F A; intro vv W A hR hk _ F; replace H := H.kept hk; obtain ⟨ap, cp, rfl, hP⟩ := hR
    replace hW := og_kept hW hk
    replace hC := og_kept hC hk
    clear hk
    refine hzh_do (v := (Pk.val ({ p with filters := [] }) ((⟨aw, cw, none, 0, ac, cc, ap, cp⟩ : Sl)))) (i := 52) F rfl rfl (by kernel_rfl) (fun _ _ _ h => h) (H.tl) (fun wz H => (ex_build rfl (gx_p1 (F.e rfl) (gx_p1 (F.e rfl) (gx_p1 (F.e rfl) (gx_p1 (F.e rfl) (gx_p1 (F.e rfl) (gx_p1 (F.e rfl) (gx_p1 (F.e rfl) (gx_p1 (F.e rfl) (gx_p1 (F.e rfl) (gx_p1 (F.e rfl) (gx_p1 (F.e rfl) (gx_p1 (F.e rfl) (gx_p1 (F.e rfl) (gx_p1 (F.e rfl) (gx_p1 (F.e rfl) (gx_p1 (F.e rfl) (gx_p1 (F.e rfl) (gx_p1 (F.e rfl) (gx_p1 (F.e rfl) (gx_p1 (F.e rfl) (gx_p1 (F.e rfl) (gx_p1 (F.e rfl) (gx_p1 (F.e rfl) (gx_p1 (F.e rfl) gx_p0)))))))))))))))))))))))) (by kernel_rfl))) ?_; intro A F
    obtain ⟨W9, hr, hB, hk⟩ := gx_storeAgg (P := Tryz.prog) (S := 33) (c := (Pk.cells ({ p with filters := [] }) ((⟨aw, cw, none, 0, ac, cc, ap, cp⟩ : Sl)))) _ (H.b.at_ (j := 0) rfl).1 (gs_33 _) rfl (pk_one _ _)
    replace hW := og_far hW (H.b.at_ (j := 0) rfl).1 (show 33 ≠ 142 by decide) hk
    replace hC := og_far hC (H.b.at_ (j := 0) rfl).1 (show 33 ≠ 5 by decide) hk
    replace hP := og_far hP (H.b.at_ (j := 0) rfl).1 (show 33 ≠ 142 by decide) hk
    replace H : Hp _ _ [_, _, _] := Hp.turn [] H hk hB; clear hk hB
    refine hb_one (i := 54) (by kernel_rfl) (hb_st (i := 54) rfl (ex_store rfl (F.e rfl) (F.e rfl) hr) (H.tl) ?_); clear hr
    refine wpAnyH_done (by kernel_rfl) ?_ _
    exact hK4 _ _ ⟨b27, aw, cw, ac, cc, ap, cp, (((F.nil.cons (F.g 3 _ rfl)).cons (F.g 2 _ rfl)).cons (F.g 1 _ rfl)), H, hW, hC, hP⟩
 clear F H; obtain ⟨bt, aw, cw, ac, cc, ap, cp, F, H, hW, hC, hP⟩ := hM
 refine wp_seq_k (fun K34 hK34 => ?_)
 refine wp_seq_k (fun K35 hK35 => gx_region ?_)
 refine zd ?_; intro A F
 refine wpList_nil (hK35 _ _ ?_)
 refine wp_block ?_
 refine hz_loop (fun (j : Nat) A W => ∃ fa : Option Addr, ∃ fc : Nat, Fr A 84 [(1, (.pointer (some ⟨b2, 0, none⟩))), (2, (.pointer (some ⟨b3, 0, none⟩))), (3, (.pointer (some ⟨bt, 0, none⟩))), (4, (.int .i64 ((j : Int))))] ∧ Hp w W [⟨bt, 33, (Pk.cells ({ p with filters := p.filters.take j }) ((⟨aw, cw, fa, fc, ac, cc, ap, cp⟩ : Sl)))⟩, ⟨b3, 33, zeroPk⟩, ⟨b2, 27, (Pk.cells p s)⟩] ∧ W.ownsRow w.heap.size 142 4 (.slice aw p.willProps.length cw) p.willProps.length (PC p.willProps) ∧ W.ownsRow w.heap.size 5 1 (.slice ac p.codes.length cc) p.codes.length (B8 p.codes) ∧ W.ownsRow w.heap.size 142 4 (.slice ap p.props.length cp) p.props.length (PC p.props) ∧ W.ownsRow w.heap.size 88 2 (.slice fa ((p.filters.take j).length) fc) ((p.filters.take j).length) (FC (p.filters.take j)) ∧ (j ≤ p.filters.length)) (fun j => p.filters.length - j) 0 ⟨none, 0, ((((F.nil.cons (gx_is (F.g 4 _ rfl) (by rfl))).cons (F.g 3 _ rfl)).cons (F.g 2 _ rfl)).cons (F.g 1 _ rfl)), H, hW, hC, hP, own_nil _, by omega⟩ (fun j A W hI J36 hJ36 => ?_)
 clear F H hW hC hP; obtain ⟨fa, fc, F, H, hW, hC, hP, hO, hj⟩ := hI
 refine wp_seq_k (fun K37 hK37 => ?_)
 refine wp_seq_k (fun K38 hK38 => gx_region ?_)
 iterate 3 (refine zd ?_; intro A F)
 refine hz_do F rfl (ex_len rfl (gx_l1 (F.e rfl) gx_l0) (rn_lens Tryz.underlying24)) ?_; intro A F
 refine zb (rn_lssN (i := j) (j := p.filters.length)) ?_; intro A F
 refine wpList_nil (hK38 _ _ ?_)
 refine zc (fun hb39 => ?_) (fun hb39 => ?_)
 ·skip
  refine wp_skip (hK37 _ _ ?_)
  have hlt : j < p.filters.length := of_decide_eq_true hb39
  obtain ⟨b9, off9, ha9, _, _, _⟩ := (hp.kept H.k).hf.filt hlt
  obtain ⟨f9, hF9⟩ : ∃ f9, f9 = p.filters[j] := ⟨_, rfl⟩
  have htk : (p.filters.take (j + 1)) = (p.filters.take j) ++ [f9] := by rw [hF9]; exact take_fi hlt
  have htl : (p.filters.take (j + 1)).length = (p.filters.take j).length + 1 := by rw [htk]; simp
  have htj : (p.filters.take j).length ≤ 100000 := by rw [List.length_take]; omega
  refine hz_cut (fun A W => ∃ fb : Option Addr, ∃ fd : Nat, Fr A 84 [(1, (.pointer (some ⟨b2, 0, none⟩))), (2, (.pointer (some ⟨b3, 0, none⟩))), (3, (.pointer (some ⟨bt, 0, none⟩))), (4, (.int .i64 ((j : Int)))), (58, (.int .i64 ((j : Int)))), (59, (.pointer (some ⟨b2, 22, none⟩))), (60, (.slice s.fa p.filters.length s.fc)), (61, (.int .i64 ((p.filters.length : Int)))), (62, (.bool (decide (j < p.filters.length))))] ∧ Hp w W [⟨bt, 33, (Pk.cells ({ p with filters := (p.filters.take (j + 1)) }) ((⟨aw, cw, fb, fd, ac, cc, ap, cp⟩ : Sl)))⟩, ⟨b3, 33, zeroPk⟩, ⟨b2, 27, (Pk.cells p s)⟩] ∧ W.ownsRow w.heap.size 142 4 (.slice aw p.willProps.length cw) p.willProps.length (PC p.willProps) ∧ W.ownsRow w.heap.size 5 1 (.slice ac p.codes.length cc) p.codes.length (B8 p.codes) ∧ W.ownsRow w.heap.size 142 4 (.slice ap p.props.length cp) p.props.length (PC p.props) ∧ W.ownsRow w.heap.size 88 2 (.slice fb ((p.filters.take (j + 1)).length) fd) ((p.filters.take (j + 1)).length) (FC (p.filters.take (j + 1))) ∧ (j < p.filters.length)) (fun A W hM => ?_) (fun K40 hK40 => ?_)
  rotate_left
  ·skip
   refine wp_block ?_
   refine wp_region_held_drew (S := fun wx => ∃ c9, Hp _ wx [⟨bt, 33, c9⟩, _, _]) (by kernel_rfl) ⟨_, H.drew⟩ (fun H9 => ?_); clear H9; replace H := H.drew
   replace hW := og_kept hW (Kept.refl No _).drew
   replace hC := og_kept hC (Kept.refl No _).drew
   replace hP := og_kept hP (Kept.refl No _).drew
   replace hO := og_kept hO (Kept.refl No _).drew
   generalize World.drew _ = W at *
   refine td 0 ?_; intro A F
   refine td 2 ?_; intro A F
   refine td 3 ?_; intro A F
   refine td 4 ?_; intro A F
   refine hzh_do (v := (.pointer (some ⟨b9, off9 + j * 2, none⟩))) (i := 5) F rfl rfl (by kernel_rfl) (fun _ _ _ h => h) (⟨_, H⟩) (fun wz ⟨c9, H⟩ => (ex_idxaddr rfl ((F.e rfl).trans (show _ = Value.slice (some ⟨b9, off9, none⟩) p.filters.length s.fc from by first | (rw [← ha9]; done) | (rw [← ha9]; rfl))) (F.e rfl) (rn_idx Tryz.underlying24 (gs_83 _) hlt))) ?_; intro A F
   refine td 6 ?_; intro A F
   refine hzh_do (v := (.string f9.text)) (i := 7) F rfl rfl (by kernel_rfl) (fun _ _ _ h => h) (⟨_, H⟩) (fun wz ⟨c9, H⟩ => (ex_load rfl (F.e rfl) (gl_one (ag_9 _) (by rw [hF9]; exact ((hp.kept H.k).hf.filt_t ha9 hlt))))) ?_; intro A F
   refine td 8 ?_; intro A F
   refine td 9 ?_; intro A F
   refine td 10 ?_; intro A F
   refine hzh_do (v := (.pointer (some ⟨b9, off9 + j * 2, none⟩))) (i := 11) F rfl rfl (by kernel_rfl) (fun _ _ _ h => h) (⟨_, H⟩) (fun wz ⟨c9, H⟩ => (ex_idxaddr rfl ((F.e rfl).trans (show _ = Value.slice (some ⟨b9, off9, none⟩) p.filters.length s.fc from by first | (rw [← ha9]; done) | (rw [← ha9]; rfl))) (F.e rfl) (rn_idx Tryz.underlying24 (gs_83 _) hlt))) ?_; intro A F
   refine td 12 ?_; intro A F
   refine hzh_do (v := (.int .u8 ((f9.opt : Int)))) (i := 13) F rfl rfl (by kernel_rfl) (fun _ _ _ h => h) (⟨_, H⟩) (fun wz ⟨c9, H⟩ => (ex_load rfl (F.e rfl) (gl_one (ag_5 _) (by rw [hF9]; exact ((hp.kept H.k).hf.filt_o ha9 hlt))))) ?_; intro A F
   refine hzh_do (v := (.agg #[(.string f9.text), (.int .u8 ((f9.opt : Int)))])) (i := 14) F rfl rfl (by kernel_rfl) (fun _ _ _ h => h) (⟨_, H⟩) (fun wz ⟨c9, H⟩ => (ex_build rfl (gx_p1 (F.e rfl) (gx_p1 (F.e rfl) gx_p0)) (by kernel_rfl))) ?_; intro A F
   refine hb_two (i := 1) (j := 15) (by kernel_rfl) ?_ ?_
   ·skip
    refine hb_new (v := (.slice (((⟨aw, cw, fa, fc, ac, cc, ap, cp⟩ : Sl)).fa) ((({ p with filters := p.filters.take j }).filters).length) (((⟨aw, cw, fa, fc, ac, cc, ap, cp⟩ : Sl)).fc))) (i := 1) F rfl rfl (ex_load rfl (F.e rfl) (gl_one (ag_31 _) (H.c 0 rfl rfl))) (⟨_, H⟩) ?_; intro A F
    refine hb_one (i := 15) (by kernel_rfl) (hb_blk (i := 15) (c := #[.string f9.text, .int .u8 (f9.opt : Int)]) (t := 88) (fun b9 => .slice (some ⟨b9, 0, none⟩) 1 1) F H rfl rfl (ex_buildSlice rfl (gx_p1 (F.e rfl) gx_p0) (by kernel_rfl)) (fun _ _ H => ⟨_, H.tl⟩) ?_); clear F A; intro b41 W A hk hN H9 F; clear H; have H := H9; clear H9
    have hne_hO_b41 := og_lt hO hN
    replace hW := og_kept hW hk
    replace hC := og_kept hC hk
    replace hP := og_kept hP hk
    replace hO := og_kept hO hk
    clear hk hN
    obtain ⟨i0, hi, hz0, hz1, hz2⟩ := info_parts info_filt
    obtain ⟨v9, W9, hrun, hO9, hg, _⟩ := run_append_own (P := Tryz.prog) _ w.heap.size 31 31 88 i0 _ 2 24 Tryz.underlying31 hi hz0 hz1 hz2 rfl (by decide) _ _ _ hO ⟨b41, 0, none⟩ 1 1 [.string f9.text, .int .u8 (f9.opt : Int)] rfl (blk_news (H.b.at_ (j := 0) rfl).1) (one_all rfl) (by unfold maxLen; omega) (by omega) H.size
    rw [show ([.string f9.text, .int .u8 (f9.opt : Int)] : List Value) = FC [f9] from rfl, ← FC_append, ← htk, ← htl] at hO9
    have hkS := kept_grown hg; obtain ⟨a42, c42, hv9⟩ := own_slice hO9; subst hv9
    replace H := Hp.grown H hO hkS (fa1 (sv_lt hne_hO_b41) (fa1 (sv_type hO (H.b.at_ (j := 1) rfl).1 (show 33 ≠ 88 by decide)) (fa1 (sv_type hO (H.b.at_ (j := 2) rfl).1 (show 33 ≠ 88 by decide)) (fa1 (sv_type hO (H.b.at_ (j := 3) rfl).1 (show 27 ≠ 88 by decide)) fa0))))
    refine hb_one (i := 16) (by kernel_rfl) (hb_new (i := 16) F rfl rfl (ex_builtin rfl (gx_l1 (F.e rfl) (gx_l1 (F.e rfl) gx_l0)) (fun cs => by simp only [builtin]; exact gx_val hrun)) (⟨_, H.tl⟩) ?_); intro A F
    replace hW := og_other hO hW (by decide) hkS
    replace hC := og_other hO hC (by decide) hkS
    replace hP := og_other hO hP (by decide) hkS
    clear hrun hg hkS; clear hO; have hO := hO9; clear hO9; generalize W9 = W at *
    refine hzh_do (v := (.pointer (some ⟨bt, 22, none⟩))) (i := 17) F rfl rfl (by kernel_rfl) (fun _ _ _ h => h) (⟨_, H.tl⟩) (fun wz ⟨c9, H⟩ => (ex_faddr rfl (F.e rfl) (fa_33_22 _ _ _))) ?_; intro A F
    let s43 : Sl := { (⟨aw, cw, fa, fc, ac, cc, ap, cp⟩ : Sl) with fa := a42, fc := c42 }
    let P44 : Pk := { { p with filters := p.filters.take j } with filters := (p.filters.take (j + 1)) }
    refine tst 18 [_] ((Pk.cells P44 s43)) ?_; intro W H9 hk
    replace hW := og_far hW (H.b.at_ (j := 1) rfl).1 (show 33 ≠ 142 by decide) hk
    replace hC := og_far hC (H.b.at_ (j := 1) rfl).1 (show 33 ≠ 5 by decide) hk
    replace hP := og_far hP (H.b.at_ (j := 1) rfl).1 (show 33 ≠ 142 by decide) hk
    replace hO := og_far hO (H.b.at_ (j := 1) rfl).1 (show 33 ≠ 88 by decide) hk
    clear H hk; have H := H9; clear H9
    refine wpAnyH_done (by kernel_rfl) ?_ _
    exact hK40 _ _ ⟨a42, c42, (((((((((F.nil.cons (F.g 62 _ rfl)).cons (F.g 61 _ rfl)).cons (F.g 60 _ rfl)).cons (F.g 59 _ rfl)).cons (F.g 58 _ rfl)).cons (F.g 4 _ rfl)).cons (F.g 3 _ rfl)).cons (F.g 2 _ rfl)).cons (F.g 1 _ rfl)), H.tl, hW, hC, hP, hO, hlt⟩
   ·skip
    refine hb_blk (i := 15) (c := #[.string f9.text, .int .u8 (f9.opt : Int)]) (t := 88) (fun b9 => .slice (some ⟨b9, 0, none⟩) 1 1) F H rfl rfl (ex_buildSlice rfl (gx_p1 (F.e rfl) gx_p0) (by kernel_rfl)) (fun _ _ H => ⟨_, H.tl⟩) ?_; clear F A; intro b45 W A hk hN H9 F; clear H; have H := H9; clear H9
    have hne_hO_b45 := og_lt hO hN
    replace hW := og_kept hW hk
    replace hC := og_kept hC hk
    replace hP := og_kept hP hk
    replace hO := og_kept hO hk
    clear hk hN
    refine hb_one (i := 1) (by kernel_rfl) (hb_new (v := (.slice (((⟨aw, cw, fa, fc, ac, cc, ap, cp⟩ : Sl)).fa) ((({ p with filters := p.filters.take j }).filters).length) (((⟨aw, cw, fa, fc, ac, cc, ap, cp⟩ : Sl)).fc))) (i := 1) F rfl rfl (ex_load rfl (F.e rfl) (gl_one (ag_31 _) (H.c 1 rfl rfl))) (⟨_, H.tl⟩) ?_); intro A F
    obtain ⟨i0, hi, hz0, hz1, hz2⟩ := info_parts info_filt
    obtain ⟨v9, W9, hrun, hO9, hg, _⟩ := run_append_own (P := Tryz.prog) _ w.heap.size 31 31 88 i0 _ 2 24 Tryz.underlying31 hi hz0 hz1 hz2 rfl (by decide) _ _ _ hO ⟨b45, 0, none⟩ 1 1 [.string f9.text, .int .u8 (f9.opt : Int)] rfl (blk_news (H.b.at_ (j := 0) rfl).1) (one_all rfl) (by unfold maxLen; omega) (by omega) H.size
    rw [show ([.string f9.text, .int .u8 (f9.opt : Int)] : List Value) = FC [f9] from rfl, ← FC_append, ← htk, ← htl] at hO9
    have hkS := kept_grown hg; obtain ⟨a46, c46, hv9⟩ := own_slice hO9; subst hv9
    replace H := Hp.grown H hO hkS (fa1 (sv_lt hne_hO_b45) (fa1 (sv_type hO (H.b.at_ (j := 1) rfl).1 (show 33 ≠ 88 by decide)) (fa1 (sv_type hO (H.b.at_ (j := 2) rfl).1 (show 33 ≠ 88 by decide)) (fa1 (sv_type hO (H.b.at_ (j := 3) rfl).1 (show 27 ≠ 88 by decide)) fa0))))
    refine hb_one (i := 16) (by kernel_rfl) (hb_new (i := 16) F rfl rfl (ex_builtin rfl (gx_l1 (F.e rfl) (gx_l1 (F.e rfl) gx_l0)) (fun cs => by simp only [builtin]; exact gx_val hrun)) (⟨_, H.tl⟩) ?_); intro A F
    replace hW := og_other hO hW (by decide) hkS
    replace hC := og_other hO hC (by decide) hkS
    replace hP := og_other hO hP (by decide) hkS
    clear hrun hg hkS; clear hO; have hO := hO9; clear hO9; generalize W9 = W at *
    refine hzh_do (v := (.pointer (some ⟨bt, 22, none⟩))) (i := 17) F rfl rfl (by kernel_rfl) (fun _ _ _ h => h) (⟨_, H.tl⟩) (fun wz ⟨c9, H⟩ => (ex_faddr rfl (F.e rfl) (fa_33_22 _ _ _))) ?_; intro A F
    let s47 : Sl := { (⟨aw, cw, fa, fc, ac, cc, ap, cp⟩ : Sl) with fa := a46, fc := c46 }
    let P48 : Pk := { { p with filters := p.filters.take j } with filters := (p.filters.take (j + 1)) }
    refine tst 18 [_] ((Pk.cells P48 s47)) ?_; intro W H9 hk
    replace hW := og_far hW (H.b.at_ (j := 1) rfl).1 (show 33 ≠ 142 by decide) hk
    replace hC := og_far hC (H.b.at_ (j := 1) rfl).1 (show 33 ≠ 5 by decide) hk
    replace hP := og_far hP (H.b.at_ (j := 1) rfl).1 (show 33 ≠ 142 by decide) hk
    replace hO := og_far hO (H.b.at_ (j := 1) rfl).1 (show 33 ≠ 88 by decide) hk
    clear H hk; have H := H9; clear H9
    refine wpAnyH_done (by kernel_rfl) ?_ _
    exact hK40 _ _ ⟨a46, c46, (((((((((F.nil.cons (F.g 62 _ rfl)).cons (F.g 61 _ rfl)).cons (F.g 60 _ rfl)).cons (F.g 59 _ rfl)).cons (F.g 58 _ rfl)).cons (F.g 4 _ rfl)).cons (F.g 3 _ rfl)).cons (F.g 2 _ rfl)).cons (F.g 1 _ rfl)), H.tl, hW, hC, hP, hO, hlt⟩
  clear F H hW hC hP hO; obtain ⟨fb, fd, F, H, hW, hC, hP, hO, hltk⟩ := hM
  refine gx_region ?_
  refine zd ?_; intro A F
  refine hz_do F rfl (ex_bin rfl (F.e rfl) gx_evc (rn_add (gx_wrap_i64 (by omega) (by omega)))) ?_; intro A F
  refine zd ?_; intro A F
  refine wpList_nil ?_
  exact hJ36 ((j + 1)) _ _ (by omega) ⟨fb, fd, ((((F.nil.cons (gx_is (F.g 4 _ rfl) (by simp))).cons (F.g 3 _ rfl)).cons (F.g 2 _ rfl)).cons (F.g 1 _ rfl)), H, hW, hC, hP, hO, by omega⟩
 refine wp_exit ?_
 refine hK34 _ _ ?_
 refine wp_seq_k (fun K49 hK49 => gx_region ?_)
 refine hz_do F rfl (ex_load rfl (F.e rfl) (gl_agg ((Pk.cells ({ p with filters := p.filters.take j }) ((⟨aw, cw, fa, fc, ac, cc, ap, cp⟩ : Sl)))) rfl (ga_33 _) (gs_33 _) (fun i => H.cs 0 rfl i))) ?_; intro A F
 obtain ⟨W9, hr, hB, hk⟩ := gx_storeAgg (P := Tryz.prog) (S := 33) (c := (Pk.cells ({ p with filters := p.filters.take j }) ((⟨aw, cw, fa, fc, ac, cc, ap, cp⟩ : Sl)))) _ (H.b.at_ (j := 1) rfl).1 (gs_33 _) rfl (pk_one _ _)
 replace hW := og_far hW (H.b.at_ (j := 1) rfl).1 (show 33 ≠ 142 by decide) hk
 replace hC := og_far hC (H.b.at_ (j := 1) rfl).1 (show 33 ≠ 5 by decide) hk
 replace hP := og_far hP (H.b.at_ (j := 1) rfl).1 (show 33 ≠ 142 by decide) hk
 replace hO := og_far hO (H.b.at_ (j := 1) rfl).1 (show 33 ≠ 88 by decide) hk
 refine hz_st (ex_store rfl (F.e rfl) (F.e rfl) hr) ?_; clear hr; replace H : Hp _ _ [_, _, _] := Hp.turn [_] H hk hB; clear hk hB
 refine wpList_nil (hK49 _ _ ?_)
 refine gx_ret ?_
 refine (show bodyPost _ Tryz.f17 RR Exit.ret _ _ from ?_)
 exact bodyPost_ret (fn := Tryz.f17) (gx_resc rfl (F.g 2 _ rfl) (gl_agg ((Pk.cells ({ p with filters := p.filters.take j }) ((⟨aw, cw, fa, fc, ac, cc, ap, cp⟩ : Sl)))) rfl (ga_33 _) (gs_33 _) (fun i => H.cs 1 rfl i))) F.d (⟨_, congrArg (fun x => Ending.returned (Pk.val x _)) (by rw [List.take_of_length_le (show p.filters.length ≤ j from by have := of_decide_eq_false hb39; omega)]), ⟨(own_row hW).1, by have h9 := (own_row hO).1; rw [List.take_of_length_le (show p.filters.length ≤ j from by have := of_decide_eq_false hb39; omega)] at h9; exact h9, (own_row hC).1, (own_row hP).1⟩, H.k, (own_row hC).2⟩)
end Go.Proofs.YtomppebamfpimaaGreatDoor
