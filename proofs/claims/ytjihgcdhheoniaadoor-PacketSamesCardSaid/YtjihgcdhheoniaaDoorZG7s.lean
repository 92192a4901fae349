/-
  PacketSames' walk.
-/
import Derived.Test.YtjihgcdhheoniaaDoorZG7t
import Derived.Test.YtjihgcdhheoniaaDoorYFB
import Derived.Test.YtjihgcdhheoniaaDoorYFC
import Derived.Test.YtjihgcdhheoniaaDoorYFE
namespace Go.Proofs.YtjihgcdhheoniaaDoor
open Go.RowKit
set_option linter.unusedVariables false
set_option linter.unusedSimpArgs false
set_option maxRecDepth 100000

theorem Reach.few' {p : Pk} (h : Small p) (hc : p.codes.length ≤ 3000) : p.few := ⟨by have := h.nw; omega, by have := h.nf; omega, by omega, by have := h.np; omega⟩
theorem Small.few {p : Pk} (h : Small p) : p.few := ⟨by have := h.nw; omega, by have := h.nf; omega, by have := h.sum; omega, by have := h.np; omega⟩
set_option maxHeartbeats 4000000 in
theorem packetSames_walk (p : Pk) (s : Sl) (q : Pk) (t : Sl) (k : Int) (w : World) (hp : p.At s w) (hq : q.At t w) (hrp : Reach p) (hrq : Reach q) (hcp : s.ca = none → p.codes.length = 0 ∧ s.cc = 0) (hcq : t.ca = none → q.codes.length = 0 ∧ t.cc = 0) (h1 : -9223372036854775808 ≤ k) (h2 : k ≤ 9223372036854775807) (hT : Tabs w) (hN : NamesAt w) :
    Calls Tryd.prog 3 #[p.val s, q.val t, .int .i64 k] w fun e w' => e = .returned (.bool true) ∧ Below w.heap.size w w' := by
  go_enter Tryd.func3, Tryd.ntmps3
  generalize hA0 : ({ tmps := _, defers := [] } : Act) = A0
  have z : A0.tmps.size = 42 := by rw [← hA0]; rfl
  have f0 : A0.tmps[0]? = some (Pk.val p s) := by rw [← hA0]; rfl
  have f1 : A0.tmps[1]? = some (Pk.val q t) := by rw [← hA0]; rfl
  have f2 : A0.tmps[2]? = some (.int .i64 k) := by rw [← hA0]; rfl
  have d : A0.defers = [] := by rw [← hA0]
  clear hA0
  have k0 : Kept No w w := Kept.refl No w
  refine wp_seq_k (fun K1 hK1 => ?_)
  refine gx_region ?_
  refine gx_new (c := (Pk.cells p s)) (t := 27) (gx_w rfl) rfl (by decide) z (ex_box rfl (gx_ev f0) (gx_box _ _)) (fun b2 w2 A2 hB2 hk hN z2 g2 x2 d2 => ?_)
  have hN2 : w.heap.size ≤ b2 := Nat.le_trans k0.size hN; clear hN
  replace k0 := k0.trans hk
  clear hk
  clear z; have z := z2; clear z2
  clear f0
  replace f1 := (x2 1 (by decide)).trans f1
  replace f2 := (x2 2 (by decide)).trans f2
  try clear f3
  have f3 := g2; clear g2
  replace d := d2.trans d; clear d2 x2
  refine gx_new (c := (Pk.cells q t)) (t := 27) (gx_w rfl) rfl (by decide) z (ex_box rfl (gx_ev f1) (gx_box _ _)) (fun b3 w3 A3 hB3 hk hN z3 g3 x3 d3 => ?_)
  have hl_b2_b3 : b2 < b3 := Nat.lt_of_lt_of_le hB2.lt hN
  have hN3 : w.heap.size ≤ b3 := Nat.le_trans k0.size hN; clear hN
  replace k0 := k0.trans hk
  replace hB2 := hB2.kept hk (fun f => f)
  clear hk
  clear z; have z := z3; clear z3
  clear f1
  replace f2 := (x3 2 (by decide)).trans f2
  replace f3 := (x3 3 (by decide)).trans f3
  try clear f4
  have f4 := g3; clear g3
  replace d := d3.trans d; clear d3 x3
  refine gx_do (v := (.bool false)) (w' := w3) (gx_w rfl) rfl (by decide) z (ex_assign rfl rfl) (fun A4 z4 g4 x4 d4 => ?_)
  clear z; have z := z4; clear z4
  replace f2 := (x4 2 (by decide)).trans f2
  replace f3 := (x4 3 (by decide)).trans f3
  replace f4 := (x4 4 (by decide)).trans f4
  try clear f6
  have f6 := g4; clear g4
  replace d := d4.trans d; clear d4 x4
  refine wpList_nil ?_
  refine hK1 _ _ ?_
  refine wp_seq_k (fun K5 hK5 => ?_)
  refine wp_seq_k (fun K6 hK6 => ?_)
  refine gx_region ?_
  refine gx_do (v := (Pk.val p s)) (w' := w3) (gx_w rfl) rfl (by decide) z (ex_load rfl (gx_ev f3) (gl_agg ((Pk.cells p s)) rfl (ga_27 _) (gs_27 _) (fun i => hB2.cell i))) (fun A7 z7 g7 x7 d7 => ?_)
  clear z; have z := z7; clear z7
  replace f2 := (x7 2 (by decide)).trans f2
  replace f3 := (x7 3 (by decide)).trans f3
  replace f4 := (x7 4 (by decide)).trans f4
  replace f6 := (x7 6 (by decide)).trans f6
  try clear f7
  have f7 := g7; clear g7
  replace d := d7.trans d; clear d7 x7
  refine gx_call (R := fun vv ww => ∃ b9, vv = .bool b9 ∧ (b9 = true → Small p) ∧ Kept No w3 ww) (gx_w rfl) rfl (by decide) z (ex_call rfl rfl (gx_l1 (gx_ev f7) gx_l0) (gx_fn Tryd.func4 (by kernel_rfl) rfl)) ((few_any p s _ (hp.kept k0) hrp).mono fun e9 ww ⟨b9, h91, h92, h93⟩ => ⟨_, h91, b9, rfl, h92, h93⟩) (fun vv w9 A9 hR z9 g9 x9 d9 => ?_)
  obtain ⟨bp, rfl, hsp, hk⟩ := hR
  replace k0 := k0.trans hk
  replace hB2 := hB2.kept hk (fun f => f)
  replace hB3 := hB3.kept hk (fun f => f)
  clear hk
  clear z; have z := z9; clear z9
  replace f2 := (x9 2 (by decide)).trans f2
  replace f3 := (x9 3 (by decide)).trans f3
  replace f4 := (x9 4 (by decide)).trans f4
  replace f6 := (x9 6 (by decide)).trans f6
  clear f7
  try clear f8
  have f8 := g9; clear g9
  replace d := d9.trans d; clear d9 x9
  refine gx_do (v := (.bool (!bp))) (w' := w9) (gx_w rfl) rfl (by decide) z (ex_not rfl (gx_ev f8)) (fun A10 z10 g10 x10 d10 => ?_)
  clear z; have z := z10; clear z10
  replace f2 := (x10 2 (by decide)).trans f2
  replace f3 := (x10 3 (by decide)).trans f3
  replace f4 := (x10 4 (by decide)).trans f4
  replace f6 := (x10 6 (by decide)).trans f6
  clear f8
  try clear f9
  have f9 := g10; clear g10
  replace d := d10.trans d; clear d10 x10
  refine gx_do (v := (.bool (!bp))) (w' := w9) (gx_w rfl) rfl (by decide) z (ex_move rfl (gx_ev f9)) (fun A11 z11 g11 x11 d11 => ?_)
  clear z; have z := z11; clear z11
  replace f2 := (x11 2 (by decide)).trans f2
  replace f3 := (x11 3 (by decide)).trans f3
  replace f4 := (x11 4 (by decide)).trans f4
  replace f6 := (x11 6 (by decide)).trans f6
  clear f9
  try clear f10
  have f10 := g11; clear g11
  replace d := d11.trans d; clear d11 x11
  rcases Bool.eq_false_or_eq_true (!bp) with hb12 | hb12
  · skip
    replace f10 := gx_b f10 hb12
    refine gx_skip (gx_w01 rfl rfl f10) rfl (by decide) z (fun A13 z13 g13 x13 d13 => ?_)
    clear z; have z := z13; clear z13
    replace f2 := (x13 2 (by decide)).trans f2
    replace f3 := (x13 3 (by decide)).trans f3
    replace f4 := (x13 4 (by decide)).trans f4
    replace f6 := (x13 6 (by decide)).trans f6
    replace f10 := (x13 10 (by decide)).trans f10
    try clear f11
    have f11 := g13; clear g13
    replace d := d13.trans d; clear d13 x13
    refine gx_skip (gx_w01 rfl rfl f10) rfl (by decide) z (fun A14 z14 g14 x14 d14 => ?_)
    clear z; have z := z14; clear z14
    replace f2 := (x14 2 (by decide)).trans f2
    replace f3 := (x14 3 (by decide)).trans f3
    replace f4 := (x14 4 (by decide)).trans f4
    replace f6 := (x14 6 (by decide)).trans f6
    replace f10 := (x14 10 (by decide)).trans f10
    clear f11
    try clear f12
    have f12 := g14; clear g14
    replace d := d14.trans d; clear d14 x14
    refine gx_skip (gx_w01 rfl rfl f10) rfl (by decide) z (fun A15 z15 g15 x15 d15 => ?_)
    clear z; have z := z15; clear z15
    replace f2 := (x15 2 (by decide)).trans f2
    replace f3 := (x15 3 (by decide)).trans f3
    replace f4 := (x15 4 (by decide)).trans f4
    replace f6 := (x15 6 (by decide)).trans f6
    replace f10 := (x15 10 (by decide)).trans f10
    clear f12
    try clear f13
    have f13 := g15; clear g15
    replace d := d15.trans d; clear d15 x15
    refine gx_do (v := (.bool true)) (w' := w9) (gx_w rfl) rfl (by decide) z (ex_pickT rfl (gx_ev f10) rfl) (fun A16 z16 g16 x16 d16 => ?_)
    clear z; have z := z16; clear z16
    replace f2 := (x16 2 (by decide)).trans f2
    replace f3 := (x16 3 (by decide)).trans f3
    replace f4 := (x16 4 (by decide)).trans f4
    replace f6 := (x16 6 (by decide)).trans f6
    clear f10
    clear f13
    try clear f14
    have f14 := g16; clear g16
    replace d := d16.trans d; clear d16 x16
    refine wpList_nil ?_
    refine hK6 _ _ ?_
    refine wp_cond_true (gx_ev f14) ?_
    clear f14
    refine wp_seq_k (fun K17 hK17 => ?_)
    refine gx_region ?_
    refine gx_call (R := fun vv ww => vv = (.bool true) ∧ Kept No w9 ww) (gx_w rfl) rfl (by decide) z (ex_call rfl rfl gx_l0 (gx_fn Tryd.func5 (by kernel_rfl) rfl)) ((told7_any _ (hT.kept k0) (hN.kept k0)).mono fun e9 ww h9 => ⟨_, h9.1, rfl, h9.2⟩) (fun vv w19 A19 hR z19 g19 x19 d19 => ?_)
    obtain ⟨rfl, hk⟩ := hR
    replace k0 := k0.trans hk
    replace hB2 := hB2.kept hk (fun f => f)
    replace hB3 := hB3.kept hk (fun f => f)
    clear hk
    clear z; have z := z19; clear z19
    replace f2 := (x19 2 (by decide)).trans f2
    replace f3 := (x19 3 (by decide)).trans f3
    replace f4 := (x19 4 (by decide)).trans f4
    replace f6 := (x19 6 (by decide)).trans f6
    try clear f15
    have f15 := g19; clear g19
    replace d := d19.trans d; clear d19 x19
    refine gx_do (v := (.bool true)) (w' := w19) (gx_w rfl) rfl (by decide) z (ex_assign rfl (gx_ev f15)) (fun A20 z20 g20 x20 d20 => ?_)
    clear z; have z := z20; clear z20
    replace f2 := (x20 2 (by decide)).trans f2
    replace f3 := (x20 3 (by decide)).trans f3
    replace f4 := (x20 4 (by decide)).trans f4
    clear f15
    try clear f6
    have f6 := g20; clear g20
    replace d := d20.trans d; clear d20 x20
    refine wpList_nil ?_
    refine hK17 _ _ ?_
    refine gx_ret ?_
    refine (show bodyPost Tryd.prog Tryd.f3 (fun e w' => e = .returned (.bool true) ∧ Below w.heap.size w w') Exit.ret _ _ from ?_)
    exact bodyPost_ret (fn := Tryd.f3) (gx_res rfl f6) d (⟨by first | rfl | simp, k0.below (Nat.le_refl _) (fun _ _ f9 => f9)⟩)
  · skip
    replace f10 := gx_b f10 hb12
    refine gx_do (v := (Pk.val q t)) (w' := w9) (gx_w00 rfl rfl f10) rfl (by decide) z (ex_load rfl (gx_ev f4) (gl_agg ((Pk.cells q t)) rfl (ga_27 _) (gs_27 _) (fun i => hB3.cell i))) (fun A21 z21 g21 x21 d21 => ?_)
    clear z; have z := z21; clear z21
    replace f2 := (x21 2 (by decide)).trans f2
    replace f3 := (x21 3 (by decide)).trans f3
    replace f4 := (x21 4 (by decide)).trans f4
    replace f6 := (x21 6 (by decide)).trans f6
    replace f10 := (x21 10 (by decide)).trans f10
    try clear f11
    have f11 := g21; clear g21
    replace d := d21.trans d; clear d21 x21
    refine gx_call (R := fun vv ww => ∃ b9, vv = .bool b9 ∧ (b9 = true → Small q) ∧ Kept No w9 ww) (gx_w00 rfl rfl f10) rfl (by decide) z (ex_call rfl rfl (gx_l1 (gx_ev f11) gx_l0) (gx_fn Tryd.func4 (by kernel_rfl) rfl)) ((few_any q t _ (hq.kept k0) hrq).mono fun e9 ww ⟨b9, h91, h92, h93⟩ => ⟨_, h91, b9, rfl, h92, h93⟩) (fun vv w23 A23 hR z23 g23 x23 d23 => ?_)
    obtain ⟨bq, rfl, hsq, hk⟩ := hR
    replace k0 := k0.trans hk
    replace hB2 := hB2.kept hk (fun f => f)
    replace hB3 := hB3.kept hk (fun f => f)
    clear hk
    clear z; have z := z23; clear z23
    replace f2 := (x23 2 (by decide)).trans f2
    replace f3 := (x23 3 (by decide)).trans f3
    replace f4 := (x23 4 (by decide)).trans f4
    replace f6 := (x23 6 (by decide)).trans f6
    replace f10 := (x23 10 (by decide)).trans f10
    clear f11
    try clear f12
    have f12 := g23; clear g23
    replace d := d23.trans d; clear d23 x23
    refine gx_do (v := (.bool (!bq))) (w' := w23) (gx_w00 rfl rfl f10) rfl (by decide) z (ex_not rfl (gx_ev f12)) (fun A24 z24 g24 x24 d24 => ?_)
    clear z; have z := z24; clear z24
    replace f2 := (x24 2 (by decide)).trans f2
    replace f3 := (x24 3 (by decide)).trans f3
    replace f4 := (x24 4 (by decide)).trans f4
    replace f6 := (x24 6 (by decide)).trans f6
    replace f10 := (x24 10 (by decide)).trans f10
    clear f12
    try clear f13
    have f13 := g24; clear g24
    replace d := d24.trans d; clear d24 x24
    refine gx_do (v := (.bool (!bq))) (w' := w23) (gx_w rfl) rfl (by decide) z (ex_pickF rfl (gx_ev f10) (gx_ev f13)) (fun A25 z25 g25 x25 d25 => ?_)
    clear z; have z := z25; clear z25
    replace f2 := (x25 2 (by decide)).trans f2
    replace f3 := (x25 3 (by decide)).trans f3
    replace f4 := (x25 4 (by decide)).trans f4
    replace f6 := (x25 6 (by decide)).trans f6
    clear f10
    clear f13
    try clear f14
    have f14 := g25; clear g25
    replace d := d25.trans d; clear d25 x25
    refine wpList_nil ?_
    refine hK6 _ _ ?_
    rcases Bool.eq_false_or_eq_true (!bq) with hb26 | hb26
    · skip
      replace f14 := gx_b f14 hb26
      refine wp_cond_true (gx_ev f14) ?_
      clear f14
      refine wp_seq_k (fun K27 hK27 => ?_)
      refine gx_region ?_
      refine gx_call (R := fun vv ww => vv = (.bool true) ∧ Kept No w23 ww) (gx_w rfl) rfl (by decide) z (ex_call rfl rfl gx_l0 (gx_fn Tryd.func5 (by kernel_rfl) rfl)) ((told7_any _ (hT.kept k0) (hN.kept k0)).mono fun e9 ww h9 => ⟨_, h9.1, rfl, h9.2⟩) (fun vv w29 A29 hR z29 g29 x29 d29 => ?_)
      obtain ⟨rfl, hk⟩ := hR
      replace k0 := k0.trans hk
      replace hB2 := hB2.kept hk (fun f => f)
      replace hB3 := hB3.kept hk (fun f => f)
      clear hk
      clear z; have z := z29; clear z29
      replace f2 := (x29 2 (by decide)).trans f2
      replace f3 := (x29 3 (by decide)).trans f3
      replace f4 := (x29 4 (by decide)).trans f4
      replace f6 := (x29 6 (by decide)).trans f6
      try clear f15
      have f15 := g29; clear g29
      replace d := d29.trans d; clear d29 x29
      refine gx_do (v := (.bool true)) (w' := w29) (gx_w rfl) rfl (by decide) z (ex_assign rfl (gx_ev f15)) (fun A30 z30 g30 x30 d30 => ?_)
      clear z; have z := z30; clear z30
      replace f2 := (x30 2 (by decide)).trans f2
      replace f3 := (x30 3 (by decide)).trans f3
      replace f4 := (x30 4 (by decide)).trans f4
      clear f15
      try clear f6
      have f6 := g30; clear g30
      replace d := d30.trans d; clear d30 x30
      refine wpList_nil ?_
      refine hK27 _ _ ?_
      refine gx_ret ?_
      refine (show bodyPost Tryd.prog Tryd.f3 (fun e w' => e = .returned (.bool true) ∧ Below w.heap.size w w') Exit.ret _ _ from ?_)
      exact bodyPost_ret (fn := Tryd.f3) (gx_res rfl f6) d (⟨by first | rfl | simp, k0.below (Nat.le_refl _) (fun _ _ f9 => f9)⟩)
    · skip
      replace f14 := gx_b f14 hb26
      refine wp_cond_false (gx_ev f14) ?_
      clear f14
      refine wp_skip ?_
      refine hK5 _ _ ?_
      refine wp_seq_k (fun K31 hK31 => ?_)
      have hFp := (hsp (by first | assumption | (simpa using ‹_›) | simp_all)).few
      have hFq := (hsq (by first | assumption | (simpa using ‹_›) | simp_all)).few
      refine wp_region_held_drew (S := (fun wx => Kept No w23 wx)) (by kernel_rfl) (Kept.refl No w23).drew (fun hH => ?_)
      generalize w23.drew = w32 at *
      refine gxh_call (i := 0) (R := fun vv ww => vv = (.bool true) ∧ Kept No w32 ww) rfl (by kernel_rfl) (gx_w rfl) rfl (by decide) z (ex_call rfl rfl gx_l0 (gx_fn Tryd.func5 (by kernel_rfl) rfl)) ((told7_any _ (hT.kept (k0.trans hH)) (hN.kept (k0.trans hH))).mono fun e9 ww h9 => ⟨_, h9.1, rfl, h9.2⟩) (fun vv ww hR => hH.trans (by obtain ⟨rfl, hk⟩ := hR; exact hk)) (fun vv w34 A34 hR z34 g34 x34 d34 => ?_)
      obtain ⟨rfl, hk⟩ := hR
      replace hH := hH.trans hk
      clear hk
      clear z; have z := z34; clear z34
      replace f2 := (x34 2 (by decide)).trans f2
      replace f3 := (x34 3 (by decide)).trans f3
      replace f4 := (x34 4 (by decide)).trans f4
      replace f6 := (x34 6 (by decide)).trans f6
      try clear f16
      have f16 := g34; clear g34
      replace d := d34.trans d; clear d34 x34
      refine gxh_do (i := 1) rfl (by kernel_rfl) (by kernel_rfl) (by kernel_rfl) (fun _ _ _ h => h) (v := (.bool true)) (gx_w rfl) rfl (by decide) z hH (fun wz hk => (ex_move rfl (gx_ev f16))) (fun A35 z35 g35 x35 d35 => ?_)
      clear z; have z := z35; clear z35
      replace f2 := (x35 2 (by decide)).trans f2
      replace f3 := (x35 3 (by decide)).trans f3
      replace f4 := (x35 4 (by decide)).trans f4
      replace f6 := (x35 6 (by decide)).trans f6
      replace f16 := (x35 16 (by decide)).trans f16
      try clear f17
      have f17 := g35; clear g35
      replace d := d35.trans d; clear d35 x35
      refine gxh_do (i := 2) rfl (by kernel_rfl) (by kernel_rfl) (by kernel_rfl) (fun _ _ _ h => h) (v := (Pk.val p s)) (gx_w11 rfl rfl f17) rfl (by decide) z hH (fun wz hk => (ex_load rfl (gx_ev f3) (gl_agg ((Pk.cells p s)) rfl (ga_27 _) (gs_27 _) (fun i => (hB2.kept hk (fun f => f)).cell i)))) (fun A36 z36 g36 x36 d36 => ?_)
      clear z; have z := z36; clear z36
      replace f2 := (x36 2 (by decide)).trans f2
      replace f3 := (x36 3 (by decide)).trans f3
      replace f4 := (x36 4 (by decide)).trans f4
      replace f6 := (x36 6 (by decide)).trans f6
      replace f16 := (x36 16 (by decide)).trans f16
      replace f17 := (x36 17 (by decide)).trans f17
      try clear f18
      have f18 := g36; clear g36
      replace d := d36.trans d; clear d36 x36
      refine gxh_do (i := 4) rfl (by kernel_rfl) (by kernel_rfl) (by kernel_rfl) (fun _ _ _ h => h) (v := (Pk.val q t)) (gx_w11 rfl rfl f17) rfl (by decide) z hH (fun wz hk => (ex_load rfl (gx_ev f4) (gl_agg ((Pk.cells q t)) rfl (ga_27 _) (gs_27 _) (fun i => (hB3.kept hk (fun f => f)).cell i)))) (fun A37 z37 g37 x37 d37 => ?_)
      clear z; have z := z37; clear z37
      replace f2 := (x37 2 (by decide)).trans f2
      replace f3 := (x37 3 (by decide)).trans f3
      replace f4 := (x37 4 (by decide)).trans f4
      replace f6 := (x37 6 (by decide)).trans f6
      replace f16 := (x37 16 (by decide)).trans f16
      replace f17 := (x37 17 (by decide)).trans f17
      replace f18 := (x37 18 (by decide)).trans f18
      try clear f20
      have f20 := g37; clear g37
      replace d := d37.trans d; clear d37 x37
      refine gxh_do (i := 7) rfl (by kernel_rfl) (by kernel_rfl) (by kernel_rfl) (fun _ _ _ h => h) (v := (Pk.val p s)) (gx_w11 rfl rfl f17) rfl (by decide) z hH (fun wz hk => (ex_load rfl (gx_ev f3) (gl_agg ((Pk.cells p s)) rfl (ga_27 _) (gs_27 _) (fun i => (hB2.kept hk (fun f => f)).cell i)))) (fun A38 z38 g38 x38 d38 => ?_)
      clear z; have z := z38; clear z38
      replace f2 := (x38 2 (by decide)).trans f2
      replace f3 := (x38 3 (by decide)).trans f3
      replace f4 := (x38 4 (by decide)).trans f4
      replace f6 := (x38 6 (by decide)).trans f6
      replace f16 := (x38 16 (by decide)).trans f16
      replace f17 := (x38 17 (by decide)).trans f17
      replace f18 := (x38 18 (by decide)).trans f18
      replace f20 := (x38 20 (by decide)).trans f20
      try clear f23
      have f23 := g38; clear g38
      replace d := d38.trans d; clear d38 x38
      refine gxh_do (i := 8) rfl (by kernel_rfl) (by kernel_rfl) (by kernel_rfl) (fun _ _ _ h => h) (v := (Pk.val q t)) (gx_w11 rfl rfl f17) rfl (by decide) z hH (fun wz hk => (ex_load rfl (gx_ev f4) (gl_agg ((Pk.cells q t)) rfl (ga_27 _) (gs_27 _) (fun i => (hB3.kept hk (fun f => f)).cell i)))) (fun A39 z39 g39 x39 d39 => ?_)
      clear z; have z := z39; clear z39
      replace f2 := (x39 2 (by decide)).trans f2
      replace f3 := (x39 3 (by decide)).trans f3
      replace f4 := (x39 4 (by decide)).trans f4
      replace f6 := (x39 6 (by decide)).trans f6
      replace f16 := (x39 16 (by decide)).trans f16
      replace f17 := (x39 17 (by decide)).trans f17
      replace f18 := (x39 18 (by decide)).trans f18
      replace f20 := (x39 20 (by decide)).trans f20
      replace f23 := (x39 23 (by decide)).trans f23
      try clear f24
      have f24 := g39; clear g39
      replace d := d39.trans d; clear d39 x39
      refine gxh_call (i := 3) (R := fun vv ww => ∃ s9, vv = Pk.val p s9 ∧ Pk.At p s9 ww ∧ Kept No w34 ww) rfl (by kernel_rfl) (gx_w11 rfl rfl f17) rfl (by decide) z (ex_call rfl rfl (gx_l1 (gx_ev f18) gx_l0) (gx_fn Tryd.func7 (by kernel_rfl) rfl)) ((pkto_any p s _ (hp.kept (k0.trans hH)) hFp hcp).mono fun e9 ww ⟨s9, h91, h92, h93⟩ => ⟨_, h91, s9, rfl, h92, h93⟩) (fun vv ww hR => hH.trans (by obtain ⟨t41, rfl, hA41, hk⟩ := hR; exact hk)) (fun vv w41 A41 hR z41 g41 x41 d41 => ?_)
      obtain ⟨t41, rfl, hA41, hk⟩ := hR
      replace hH := hH.trans hk
      clear hk
      clear z; have z := z41; clear z41
      replace f2 := (x41 2 (by decide)).trans f2
      replace f3 := (x41 3 (by decide)).trans f3
      replace f4 := (x41 4 (by decide)).trans f4
      replace f6 := (x41 6 (by decide)).trans f6
      replace f16 := (x41 16 (by decide)).trans f16
      replace f17 := (x41 17 (by decide)).trans f17
      replace f18 := (x41 18 (by decide)).trans f18
      replace f20 := (x41 20 (by decide)).trans f20
      replace f23 := (x41 23 (by decide)).trans f23
      replace f24 := (x41 24 (by decide)).trans f24
      try clear f19
      have f19 := g41; clear g41
      replace d := d41.trans d; clear d41 x41
      refine gxh_call (i := 5) (R := fun vv ww => ∃ s9, vv = Pk.val q s9 ∧ Pk.At q s9 ww ∧ Kept No w41 ww) rfl (by kernel_rfl) (gx_w11 rfl rfl f17) rfl (by decide) z (ex_call rfl rfl (gx_l1 (gx_ev f20) gx_l0) (gx_fn Tryd.func7 (by kernel_rfl) rfl)) ((pkto_any q t _ (hq.kept (k0.trans hH)) hFq hcq).mono fun e9 ww ⟨s9, h91, h92, h93⟩ => ⟨_, h91, s9, rfl, h92, h93⟩) (fun vv ww hR => hH.trans (by obtain ⟨t43, rfl, hA43, hk⟩ := hR; exact hk)) (fun vv w43 A43 hR z43 g43 x43 d43 => ?_)
      obtain ⟨t43, rfl, hA43, hk⟩ := hR
      replace hH := hH.trans hk
      replace hA41 := hA41.kept hk
      clear hk
      clear z; have z := z43; clear z43
      replace f2 := (x43 2 (by decide)).trans f2
      replace f3 := (x43 3 (by decide)).trans f3
      replace f4 := (x43 4 (by decide)).trans f4
      replace f6 := (x43 6 (by decide)).trans f6
      replace f16 := (x43 16 (by decide)).trans f16
      replace f17 := (x43 17 (by decide)).trans f17
      replace f18 := (x43 18 (by decide)).trans f18
      replace f19 := (x43 19 (by decide)).trans f19
      replace f20 := (x43 20 (by decide)).trans f20
      replace f23 := (x43 23 (by decide)).trans f23
      replace f24 := (x43 24 (by decide)).trans f24
      try clear f21
      have f21 := g43; clear g43
      replace d := d43.trans d; clear d43 x43
      refine gxh_call (i := 6) (R := fun vv ww => vv = (.bool (sameB p q)) ∧ Kept No w43 ww) rfl (by kernel_rfl) (gx_w11 rfl rfl f17) rfl (by decide) z (ex_call rfl rfl (gx_l1 (gx_ev f19) (gx_l1 (gx_ev f21) gx_l0)) (gx_fn Tryd.func6 (by kernel_rfl) rfl)) ((pksame_any p q t41 t43 _ hA41 hA43 hFp hFq).mono fun e9 ww h9 => ⟨_, h9.1, rfl, h9.2⟩) (fun vv ww hR => hH.trans (by obtain ⟨rfl, hk⟩ := hR; exact hk)) (fun vv w45 A45 hR z45 g45 x45 d45 => ?_)
      obtain ⟨rfl, hk⟩ := hR
      replace hH := hH.trans hk
      replace hA41 := hA41.kept hk
      replace hA43 := hA43.kept hk
      clear hk
      clear z; have z := z45; clear z45
      replace f2 := (x45 2 (by decide)).trans f2
      replace f3 := (x45 3 (by decide)).trans f3
      replace f4 := (x45 4 (by decide)).trans f4
      replace f6 := (x45 6 (by decide)).trans f6
      replace f16 := (x45 16 (by decide)).trans f16
      replace f17 := (x45 17 (by decide)).trans f17
      replace f18 := (x45 18 (by decide)).trans f18
      replace f19 := (x45 19 (by decide)).trans f19
      replace f20 := (x45 20 (by decide)).trans f20
      replace f21 := (x45 21 (by decide)).trans f21
      replace f23 := (x45 23 (by decide)).trans f23
      replace f24 := (x45 24 (by decide)).trans f24
      try clear f22
      have f22 := g45; clear g45
      replace d := d45.trans d; clear d45 x45
      refine gxh_call (i := 9) (R := fun vv ww => vv = (.bool (decide (p = q))) ∧ Kept No w45 ww) rfl (by kernel_rfl) (gx_w11 rfl rfl f17) rfl (by decide) z (ex_call rfl rfl (gx_l1 (gx_ev f23) (gx_l1 (gx_ev f24) gx_l0)) (gx_fn Tryd.func8 (by kernel_rfl) rfl)) ((rpksame_any p q s t _ (hp.kept (k0.trans hH)) (hq.kept (k0.trans hH)) hFp hFq ⟨fun h => (hcp h).2⟩ ⟨fun h => (hcq h).2⟩).mono fun e9 ww h9 => ⟨_, h9.1, rfl, h9.2⟩) (fun vv ww hR => hH.trans (by obtain ⟨rfl, hk⟩ := hR; exact hk)) (fun vv w47 A47 hR z47 g47 x47 d47 => ?_)
      obtain ⟨rfl, hk⟩ := hR
      replace hH := hH.trans hk
      replace hA41 := hA41.kept hk
      replace hA43 := hA43.kept hk
      clear hk
      clear z; have z := z47; clear z47
      replace f2 := (x47 2 (by decide)).trans f2
      replace f3 := (x47 3 (by decide)).trans f3
      replace f4 := (x47 4 (by decide)).trans f4
      replace f6 := (x47 6 (by decide)).trans f6
      replace f16 := (x47 16 (by decide)).trans f16
      replace f17 := (x47 17 (by decide)).trans f17
      replace f18 := (x47 18 (by decide)).trans f18
      replace f19 := (x47 19 (by decide)).trans f19
      replace f20 := (x47 20 (by decide)).trans f20
      replace f21 := (x47 21 (by decide)).trans f21
      replace f22 := (x47 22 (by decide)).trans f22
      replace f23 := (x47 23 (by decide)).trans f23
      replace f24 := (x47 24 (by decide)).trans f24
      try clear f25
      have f25 := g47; clear g47
      replace d := d47.trans d; clear d47 x47
      refine gxh_do (i := 10) rfl (by kernel_rfl) (by kernel_rfl) (by kernel_rfl) (fun _ _ _ h => h) (v := (.bool ((sameB p q) == (decide (p = q))))) (gx_w11 rfl rfl f17) rfl (by decide) z hH (fun wz hk => (ex_bin rfl (gx_ev f22) (gx_ev f25) (rn_beql Tryd.underlying4))) (fun A48 z48 g48 x48 d48 => ?_)
      clear z; have z := z48; clear z48
      replace f2 := (x48 2 (by decide)).trans f2
      replace f3 := (x48 3 (by decide)).trans f3
      replace f4 := (x48 4 (by decide)).trans f4
      replace f6 := (x48 6 (by decide)).trans f6
      replace f16 := (x48 16 (by decide)).trans f16
      replace f17 := (x48 17 (by decide)).trans f17
      replace f18 := (x48 18 (by decide)).trans f18
      replace f19 := (x48 19 (by decide)).trans f19
      replace f20 := (x48 20 (by decide)).trans f20
      replace f21 := (x48 21 (by decide)).trans f21
      replace f22 := (x48 22 (by decide)).trans f22
      replace f23 := (x48 23 (by decide)).trans f23
      replace f24 := (x48 24 (by decide)).trans f24
      replace f25 := (x48 25 (by decide)).trans f25
      try clear f26
      have f26 := g48; clear g48
      replace d := d48.trans d; clear d48 x48
      refine gxh_do (i := 11) rfl (by kernel_rfl) (by kernel_rfl) (by kernel_rfl) (fun _ _ _ h => h) (v := (.bool ((sameB p q) == (decide (p = q))))) (gx_w rfl) rfl (by decide) z hH (fun wz hk => (ex_pickT rfl (gx_ev f17) (gx_ev f26))) (fun A49 z49 g49 x49 d49 => ?_)
      clear z; have z := z49; clear z49
      replace f2 := (x49 2 (by decide)).trans f2
      replace f3 := (x49 3 (by decide)).trans f3
      replace f4 := (x49 4 (by decide)).trans f4
      replace f6 := (x49 6 (by decide)).trans f6
      replace f16 := (x49 16 (by decide)).trans f16
      replace f17 := (x49 17 (by decide)).trans f17
      replace f18 := (x49 18 (by decide)).trans f18
      replace f19 := (x49 19 (by decide)).trans f19
      replace f20 := (x49 20 (by decide)).trans f20
      replace f21 := (x49 21 (by decide)).trans f21
      replace f22 := (x49 22 (by decide)).trans f22
      replace f23 := (x49 23 (by decide)).trans f23
      replace f24 := (x49 24 (by decide)).trans f24
      replace f25 := (x49 25 (by decide)).trans f25
      replace f26 := (x49 26 (by decide)).trans f26
      try clear f27
      have f27 := g49; clear g49
      replace d := d49.trans d; clear d49 x49
      refine gxh_do (i := 12) rfl (by kernel_rfl) (by kernel_rfl) (by kernel_rfl) (fun _ _ _ h => h) (v := (.bool ((sameB p q) == (decide (p = q))))) (gx_w rfl) rfl (by decide) z hH (fun wz hk => (ex_move rfl (gx_ev f27))) (fun A50 z50 g50 x50 d50 => ?_)
      clear z; have z := z50; clear z50
      replace f2 := (x50 2 (by decide)).trans f2
      replace f3 := (x50 3 (by decide)).trans f3
      replace f4 := (x50 4 (by decide)).trans f4
      replace f6 := (x50 6 (by decide)).trans f6
      replace f16 := (x50 16 (by decide)).trans f16
      replace f17 := (x50 17 (by decide)).trans f17
      replace f18 := (x50 18 (by decide)).trans f18
      replace f19 := (x50 19 (by decide)).trans f19
      replace f20 := (x50 20 (by decide)).trans f20
      replace f21 := (x50 21 (by decide)).trans f21
      replace f22 := (x50 22 (by decide)).trans f22
      replace f23 := (x50 23 (by decide)).trans f23
      replace f24 := (x50 24 (by decide)).trans f24
      replace f25 := (x50 25 (by decide)).trans f25
      replace f26 := (x50 26 (by decide)).trans f26
      replace f27 := (x50 27 (by decide)).trans f27
      try clear f28
      have f28 := g50; clear g50
      replace d := d50.trans d; clear d50 x50
      replace f26 := gx_b (b := true) f26 ((by rw [sameB_eq]; simp))
      replace f27 := gx_b (b := true) f27 ((by rw [sameB_eq]; simp))
      replace f28 := gx_b (b := true) f28 ((by rw [sameB_eq]; simp))
      refine gxh_do (i := 13) rfl (by kernel_rfl) (by kernel_rfl) (by kernel_rfl) (fun _ _ _ h => h) (v := (Pk.val p s)) (gx_w11 rfl rfl f28) rfl (by decide) z hH (fun wz hk => (ex_load rfl (gx_ev f3) (gl_agg ((Pk.cells p s)) rfl (ga_27 _) (gs_27 _) (fun i => (hB2.kept hk (fun f => f)).cell i)))) (fun A51 z51 g51 x51 d51 => ?_)
      clear z; have z := z51; clear z51
      replace f2 := (x51 2 (by decide)).trans f2
      replace f3 := (x51 3 (by decide)).trans f3
      replace f4 := (x51 4 (by decide)).trans f4
      replace f6 := (x51 6 (by decide)).trans f6
      replace f16 := (x51 16 (by decide)).trans f16
      replace f17 := (x51 17 (by decide)).trans f17
      replace f18 := (x51 18 (by decide)).trans f18
      replace f19 := (x51 19 (by decide)).trans f19
      replace f20 := (x51 20 (by decide)).trans f20
      replace f21 := (x51 21 (by decide)).trans f21
      replace f22 := (x51 22 (by decide)).trans f22
      replace f23 := (x51 23 (by decide)).trans f23
      replace f24 := (x51 24 (by decide)).trans f24
      replace f25 := (x51 25 (by decide)).trans f25
      replace f26 := (x51 26 (by decide)).trans f26
      replace f27 := (x51 27 (by decide)).trans f27
      replace f28 := (x51 28 (by decide)).trans f28
      try clear f29
      have f29 := g51; clear g51
      replace d := d51.trans d; clear d51 x51
      refine gxh_do (i := 15) rfl (by kernel_rfl) (by kernel_rfl) (by kernel_rfl) (fun _ _ _ h => h) (v := (Pk.val p s)) (gx_w11 rfl rfl f28) rfl (by decide) z hH (fun wz hk => (ex_load rfl (gx_ev f3) (gl_agg ((Pk.cells p s)) rfl (ga_27 _) (gs_27 _) (fun i => (hB2.kept hk (fun f => f)).cell i)))) (fun A52 z52 g52 x52 d52 => ?_)
      clear z; have z := z52; clear z52
      replace f2 := (x52 2 (by decide)).trans f2
      replace f3 := (x52 3 (by decide)).trans f3
      replace f4 := (x52 4 (by decide)).trans f4
      replace f6 := (x52 6 (by decide)).trans f6
      replace f16 := (x52 16 (by decide)).trans f16
      replace f17 := (x52 17 (by decide)).trans f17
      replace f18 := (x52 18 (by decide)).trans f18
      replace f19 := (x52 19 (by decide)).trans f19
      replace f20 := (x52 20 (by decide)).trans f20
      replace f21 := (x52 21 (by decide)).trans f21
      replace f22 := (x52 22 (by decide)).trans f22
      replace f23 := (x52 23 (by decide)).trans f23
      replace f24 := (x52 24 (by decide)).trans f24
      replace f25 := (x52 25 (by decide)).trans f25
      replace f26 := (x52 26 (by decide)).trans f26
      replace f27 := (x52 27 (by decide)).trans f27
      replace f28 := (x52 28 (by decide)).trans f28
      replace f29 := (x52 29 (by decide)).trans f29
      try clear f31
      have f31 := g52; clear g52
      replace d := d52.trans d; clear d52 x52
      refine gxh_call (i := 14) (R := fun vv ww => ∃ s9, vv = Pk.val p s9 ∧ Pk.At p s9 ww ∧ Kept No w47 ww) rfl (by kernel_rfl) (gx_w11 rfl rfl f28) rfl (by decide) z (ex_call rfl rfl (gx_l1 (gx_ev f29) gx_l0) (gx_fn Tryd.func7 (by kernel_rfl) rfl)) ((pkto_any p s _ (hp.kept (k0.trans hH)) hFp hcp).mono fun e9 ww ⟨s9, h91, h92, h93⟩ => ⟨_, h91, s9, rfl, h92, h93⟩) (fun vv ww hR => hH.trans (by obtain ⟨t54, rfl, hA54, hk⟩ := hR; exact hk)) (fun vv w54 A54 hR z54 g54 x54 d54 => ?_)
      obtain ⟨t54, rfl, hA54, hk⟩ := hR
      replace hH := hH.trans hk
      replace hA41 := hA41.kept hk
      replace hA43 := hA43.kept hk
      clear hk
      clear z; have z := z54; clear z54
      replace f2 := (x54 2 (by decide)).trans f2
      replace f3 := (x54 3 (by decide)).trans f3
      replace f4 := (x54 4 (by decide)).trans f4
      replace f6 := (x54 6 (by decide)).trans f6
      replace f16 := (x54 16 (by decide)).trans f16
      replace f17 := (x54 17 (by decide)).trans f17
      replace f18 := (x54 18 (by decide)).trans f18
      replace f19 := (x54 19 (by decide)).trans f19
      replace f20 := (x54 20 (by decide)).trans f20
      replace f21 := (x54 21 (by decide)).trans f21
      replace f22 := (x54 22 (by decide)).trans f22
      replace f23 := (x54 23 (by decide)).trans f23
      replace f24 := (x54 24 (by decide)).trans f24
      replace f25 := (x54 25 (by decide)).trans f25
      replace f26 := (x54 26 (by decide)).trans f26
      replace f27 := (x54 27 (by decide)).trans f27
      replace f28 := (x54 28 (by decide)).trans f28
      replace f29 := (x54 29 (by decide)).trans f29
      replace f31 := (x54 31 (by decide)).trans f31
      try clear f30
      have f30 := g54; clear g54
      replace d := d54.trans d; clear d54 x54
      refine gxh_call (i := 16) (R := fun vv ww => ∃ s9, vv = Pk.val p s9 ∧ Pk.At p s9 ww ∧ Kept No w54 ww) rfl (by kernel_rfl) (gx_w11 rfl rfl f28) rfl (by decide) z (ex_call rfl rfl (gx_l1 (gx_ev f31) gx_l0) (gx_fn Tryd.func7 (by kernel_rfl) rfl)) ((pkto_any p s _ (hp.kept (k0.trans hH)) hFp hcp).mono fun e9 ww ⟨s9, h91, h92, h93⟩ => ⟨_, h91, s9, rfl, h92, h93⟩) (fun vv ww hR => hH.trans (by obtain ⟨t56, rfl, hA56, hk⟩ := hR; exact hk)) (fun vv w56 A56 hR z56 g56 x56 d56 => ?_)
      obtain ⟨t56, rfl, hA56, hk⟩ := hR
      replace hH := hH.trans hk
      replace hA41 := hA41.kept hk
      replace hA43 := hA43.kept hk
      replace hA54 := hA54.kept hk
      clear hk
      clear z; have z := z56; clear z56
      replace f2 := (x56 2 (by decide)).trans f2
      replace f3 := (x56 3 (by decide)).trans f3
      replace f4 := (x56 4 (by decide)).trans f4
      replace f6 := (x56 6 (by decide)).trans f6
      replace f16 := (x56 16 (by decide)).trans f16
      replace f17 := (x56 17 (by decide)).trans f17
      replace f18 := (x56 18 (by decide)).trans f18
      replace f19 := (x56 19 (by decide)).trans f19
      replace f20 := (x56 20 (by decide)).trans f20
      replace f21 := (x56 21 (by decide)).trans f21
      replace f22 := (x56 22 (by decide)).trans f22
      replace f23 := (x56 23 (by decide)).trans f23
      replace f24 := (x56 24 (by decide)).trans f24
      replace f25 := (x56 25 (by decide)).trans f25
      replace f26 := (x56 26 (by decide)).trans f26
      replace f27 := (x56 27 (by decide)).trans f27
      replace f28 := (x56 28 (by decide)).trans f28
      replace f29 := (x56 29 (by decide)).trans f29
      replace f30 := (x56 30 (by decide)).trans f30
      replace f31 := (x56 31 (by decide)).trans f31
      try clear f32
      have f32 := g56; clear g56
      replace d := d56.trans d; clear d56 x56
      refine gxh_call (i := 17) (R := fun vv ww => vv = (.bool (sameB p p)) ∧ Kept No w56 ww) rfl (by kernel_rfl) (gx_w11 rfl rfl f28) rfl (by decide) z (ex_call rfl rfl (gx_l1 (gx_ev f30) (gx_l1 (gx_ev f32) gx_l0)) (gx_fn Tryd.func6 (by kernel_rfl) rfl)) ((pksame_any p p t54 t56 _ hA54 hA56 hFp hFp).mono fun e9 ww h9 => ⟨_, h9.1, rfl, h9.2⟩) (fun vv ww hR => hH.trans (by obtain ⟨rfl, hk⟩ := hR; exact hk)) (fun vv w58 A58 hR z58 g58 x58 d58 => ?_)
      obtain ⟨rfl, hk⟩ := hR
      replace hH := hH.trans hk
      replace hA41 := hA41.kept hk
      replace hA43 := hA43.kept hk
      replace hA54 := hA54.kept hk
      replace hA56 := hA56.kept hk
      clear hk
      clear z; have z := z58; clear z58
      replace f2 := (x58 2 (by decide)).trans f2
      replace f3 := (x58 3 (by decide)).trans f3
      replace f4 := (x58 4 (by decide)).trans f4
      replace f6 := (x58 6 (by decide)).trans f6
      replace f16 := (x58 16 (by decide)).trans f16
      replace f17 := (x58 17 (by decide)).trans f17
      replace f18 := (x58 18 (by decide)).trans f18
      replace f19 := (x58 19 (by decide)).trans f19
      replace f20 := (x58 20 (by decide)).trans f20
      replace f21 := (x58 21 (by decide)).trans f21
      replace f22 := (x58 22 (by decide)).trans f22
      replace f23 := (x58 23 (by decide)).trans f23
      replace f24 := (x58 24 (by decide)).trans f24
      replace f25 := (x58 25 (by decide)).trans f25
      replace f26 := (x58 26 (by decide)).trans f26
      replace f27 := (x58 27 (by decide)).trans f27
      replace f28 := (x58 28 (by decide)).trans f28
      replace f29 := (x58 29 (by decide)).trans f29
      replace f30 := (x58 30 (by decide)).trans f30
      replace f31 := (x58 31 (by decide)).trans f31
      replace f32 := (x58 32 (by decide)).trans f32
      try clear f33
      have f33 := g58; clear g58
      replace d := d58.trans d; clear d58 x58
      refine gxh_do (i := 18) rfl (by kernel_rfl) (by kernel_rfl) (by kernel_rfl) (fun _ _ _ h => h) (v := (.bool (sameB p p))) (gx_w rfl) rfl (by decide) z hH (fun wz hk => (ex_pickT rfl (gx_ev f28) (gx_ev f33))) (fun A59 z59 g59 x59 d59 => ?_)
      clear z; have z := z59; clear z59
      replace f2 := (x59 2 (by decide)).trans f2
      replace f3 := (x59 3 (by decide)).trans f3
      replace f4 := (x59 4 (by decide)).trans f4
      replace f6 := (x59 6 (by decide)).trans f6
      replace f16 := (x59 16 (by decide)).trans f16
      replace f17 := (x59 17 (by decide)).trans f17
      replace f18 := (x59 18 (by decide)).trans f18
      replace f19 := (x59 19 (by decide)).trans f19
      replace f20 := (x59 20 (by decide)).trans f20
      replace f21 := (x59 21 (by decide)).trans f21
      replace f22 := (x59 22 (by decide)).trans f22
      replace f23 := (x59 23 (by decide)).trans f23
      replace f24 := (x59 24 (by decide)).trans f24
      replace f25 := (x59 25 (by decide)).trans f25
      replace f26 := (x59 26 (by decide)).trans f26
      replace f27 := (x59 27 (by decide)).trans f27
      replace f28 := (x59 28 (by decide)).trans f28
      replace f29 := (x59 29 (by decide)).trans f29
      replace f30 := (x59 30 (by decide)).trans f30
      replace f31 := (x59 31 (by decide)).trans f31
      replace f32 := (x59 32 (by decide)).trans f32
      replace f33 := (x59 33 (by decide)).trans f33
      try clear f34
      have f34 := g59; clear g59
      replace d := d59.trans d; clear d59 x59
      refine gxh_do (i := 19) rfl (by kernel_rfl) (by kernel_rfl) (by kernel_rfl) (fun _ _ _ h => h) (v := (.bool (sameB p p))) (gx_w rfl) rfl (by decide) z hH (fun wz hk => (ex_move rfl (gx_ev f34))) (fun A60 z60 g60 x60 d60 => ?_)
      clear z; have z := z60; clear z60
      replace f2 := (x60 2 (by decide)).trans f2
      replace f3 := (x60 3 (by decide)).trans f3
      replace f4 := (x60 4 (by decide)).trans f4
      replace f6 := (x60 6 (by decide)).trans f6
      replace f16 := (x60 16 (by decide)).trans f16
      replace f17 := (x60 17 (by decide)).trans f17
      replace f18 := (x60 18 (by decide)).trans f18
      replace f19 := (x60 19 (by decide)).trans f19
      replace f20 := (x60 20 (by decide)).trans f20
      replace f21 := (x60 21 (by decide)).trans f21
      replace f22 := (x60 22 (by decide)).trans f22
      replace f23 := (x60 23 (by decide)).trans f23
      replace f24 := (x60 24 (by decide)).trans f24
      replace f25 := (x60 25 (by decide)).trans f25
      replace f26 := (x60 26 (by decide)).trans f26
      replace f27 := (x60 27 (by decide)).trans f27
      replace f28 := (x60 28 (by decide)).trans f28
      replace f29 := (x60 29 (by decide)).trans f29
      replace f30 := (x60 30 (by decide)).trans f30
      replace f31 := (x60 31 (by decide)).trans f31
      replace f32 := (x60 32 (by decide)).trans f32
      replace f33 := (x60 33 (by decide)).trans f33
      replace f34 := (x60 34 (by decide)).trans f34
      try clear f35
      have f35 := g60; clear g60
      replace d := d60.trans d; clear d60 x60
      replace f33 := gx_b (b := true) f33 ((by rw [sameB_eq]; simp))
      replace f34 := gx_b (b := true) f34 ((by rw [sameB_eq]; simp))
      replace f35 := gx_b (b := true) f35 ((by rw [sameB_eq]; simp))
      refine gxh_do (i := 20) rfl (by kernel_rfl) (by kernel_rfl) (by kernel_rfl) (fun _ _ _ h => h) (v := (.int .i64 k)) (gx_w11 rfl rfl f35) rfl (by decide) z hH (fun wz hk => (ex_move rfl (gx_ev f2))) (fun A61 z61 g61 x61 d61 => ?_)
      clear z; have z := z61; clear z61
      replace f2 := (x61 2 (by decide)).trans f2
      replace f3 := (x61 3 (by decide)).trans f3
      replace f4 := (x61 4 (by decide)).trans f4
      replace f6 := (x61 6 (by decide)).trans f6
      replace f16 := (x61 16 (by decide)).trans f16
      replace f17 := (x61 17 (by decide)).trans f17
      replace f18 := (x61 18 (by decide)).trans f18
      replace f19 := (x61 19 (by decide)).trans f19
      replace f20 := (x61 20 (by decide)).trans f20
      replace f21 := (x61 21 (by decide)).trans f21
      replace f22 := (x61 22 (by decide)).trans f22
      replace f23 := (x61 23 (by decide)).trans f23
      replace f24 := (x61 24 (by decide)).trans f24
      replace f25 := (x61 25 (by decide)).trans f25
      replace f26 := (x61 26 (by decide)).trans f26
      replace f27 := (x61 27 (by decide)).trans f27
      replace f28 := (x61 28 (by decide)).trans f28
      replace f29 := (x61 29 (by decide)).trans f29
      replace f30 := (x61 30 (by decide)).trans f30
      replace f31 := (x61 31 (by decide)).trans f31
      replace f32 := (x61 32 (by decide)).trans f32
      replace f33 := (x61 33 (by decide)).trans f33
      replace f34 := (x61 34 (by decide)).trans f34
      replace f35 := (x61 35 (by decide)).trans f35
      try clear f36
      have f36 := g61; clear g61
      replace d := d61.trans d; clear d61 x61
      refine gxh_do (i := 22) rfl (by kernel_rfl) (by kernel_rfl) (by kernel_rfl) (fun _ _ _ h => h) (v := (.int .i64 k)) (gx_w11 rfl rfl f35) rfl (by decide) z hH (fun wz hk => (ex_move rfl (gx_ev f2))) (fun A62 z62 g62 x62 d62 => ?_)
      clear z; have z := z62; clear z62
      replace f2 := (x62 2 (by decide)).trans f2
      replace f3 := (x62 3 (by decide)).trans f3
      replace f4 := (x62 4 (by decide)).trans f4
      replace f6 := (x62 6 (by decide)).trans f6
      replace f16 := (x62 16 (by decide)).trans f16
      replace f17 := (x62 17 (by decide)).trans f17
      replace f18 := (x62 18 (by decide)).trans f18
      replace f19 := (x62 19 (by decide)).trans f19
      replace f20 := (x62 20 (by decide)).trans f20
      replace f21 := (x62 21 (by decide)).trans f21
      replace f22 := (x62 22 (by decide)).trans f22
      replace f23 := (x62 23 (by decide)).trans f23
      replace f24 := (x62 24 (by decide)).trans f24
      replace f25 := (x62 25 (by decide)).trans f25
      replace f26 := (x62 26 (by decide)).trans f26
      replace f27 := (x62 27 (by decide)).trans f27
      replace f28 := (x62 28 (by decide)).trans f28
      replace f29 := (x62 29 (by decide)).trans f29
      replace f30 := (x62 30 (by decide)).trans f30
      replace f31 := (x62 31 (by decide)).trans f31
      replace f32 := (x62 32 (by decide)).trans f32
      replace f33 := (x62 33 (by decide)).trans f33
      replace f34 := (x62 34 (by decide)).trans f34
      replace f35 := (x62 35 (by decide)).trans f35
      replace f36 := (x62 36 (by decide)).trans f36
      try clear f38
      have f38 := g62; clear g62
      replace d := d62.trans d; clear d62 x62
      refine gxh_call (i := 21) (R := fun vv ww => vv = (.string ((nameK k))) ∧ Kept No w58 ww) rfl (by kernel_rfl) (gx_w11 rfl rfl f35) rfl (by decide) z (ex_call rfl rfl (gx_l1 (gx_ev f36) gx_l0) (gx_fn Tryd.func9 (by kernel_rfl) rfl)) ((pname_any k _ h1 h2 (hN.kept (k0.trans hH))).mono fun e9 ww h9 => ⟨_, h9.1, rfl, h9.2 ▸ Kept.refl No _⟩) (fun vv ww hR => hH.trans (by obtain ⟨rfl, hk⟩ := hR; exact hk)) (fun vv w64 A64 hR z64 g64 x64 d64 => ?_)
      obtain ⟨rfl, hk⟩ := hR
      replace hH := hH.trans hk
      replace hA41 := hA41.kept hk
      replace hA43 := hA43.kept hk
      replace hA54 := hA54.kept hk
      replace hA56 := hA56.kept hk
      clear hk
      clear z; have z := z64; clear z64
      replace f2 := (x64 2 (by decide)).trans f2
      replace f3 := (x64 3 (by decide)).trans f3
      replace f4 := (x64 4 (by decide)).trans f4
      replace f6 := (x64 6 (by decide)).trans f6
      replace f16 := (x64 16 (by decide)).trans f16
      replace f17 := (x64 17 (by decide)).trans f17
      replace f18 := (x64 18 (by decide)).trans f18
      replace f19 := (x64 19 (by decide)).trans f19
      replace f20 := (x64 20 (by decide)).trans f20
      replace f21 := (x64 21 (by decide)).trans f21
      replace f22 := (x64 22 (by decide)).trans f22
      replace f23 := (x64 23 (by decide)).trans f23
      replace f24 := (x64 24 (by decide)).trans f24
      replace f25 := (x64 25 (by decide)).trans f25
      replace f26 := (x64 26 (by decide)).trans f26
      replace f27 := (x64 27 (by decide)).trans f27
      replace f28 := (x64 28 (by decide)).trans f28
      replace f29 := (x64 29 (by decide)).trans f29
      replace f30 := (x64 30 (by decide)).trans f30
      replace f31 := (x64 31 (by decide)).trans f31
      replace f32 := (x64 32 (by decide)).trans f32
      replace f33 := (x64 33 (by decide)).trans f33
      replace f34 := (x64 34 (by decide)).trans f34
      replace f35 := (x64 35 (by decide)).trans f35
      replace f36 := (x64 36 (by decide)).trans f36
      replace f38 := (x64 38 (by decide)).trans f38
      try clear f37
      have f37 := g64; clear g64
      replace d := d64.trans d; clear d64 x64
      refine gxh_call (i := 23) (R := fun vv ww => vv = (.string ((nameK k))) ∧ Kept No w64 ww) rfl (by kernel_rfl) (gx_w11 rfl rfl f35) rfl (by decide) z (ex_call rfl rfl (gx_l1 (gx_ev f38) gx_l0) (gx_fn Tryd.func10 (by kernel_rfl) rfl)) ((rname7_any k _ h1 h2).mono fun e9 ww h9 => ⟨_, h9.1, rfl, h9.2⟩) (fun vv ww hR => hH.trans (by obtain ⟨rfl, hk⟩ := hR; exact hk)) (fun vv w66 A66 hR z66 g66 x66 d66 => ?_)
      obtain ⟨rfl, hk⟩ := hR
      replace hH := hH.trans hk
      replace hA41 := hA41.kept hk
      replace hA43 := hA43.kept hk
      replace hA54 := hA54.kept hk
      replace hA56 := hA56.kept hk
      clear hk
      clear z; have z := z66; clear z66
      replace f2 := (x66 2 (by decide)).trans f2
      replace f3 := (x66 3 (by decide)).trans f3
      replace f4 := (x66 4 (by decide)).trans f4
      replace f6 := (x66 6 (by decide)).trans f6
      replace f16 := (x66 16 (by decide)).trans f16
      replace f17 := (x66 17 (by decide)).trans f17
      replace f18 := (x66 18 (by decide)).trans f18
      replace f19 := (x66 19 (by decide)).trans f19
      replace f20 := (x66 20 (by decide)).trans f20
      replace f21 := (x66 21 (by decide)).trans f21
      replace f22 := (x66 22 (by decide)).trans f22
      replace f23 := (x66 23 (by decide)).trans f23
      replace f24 := (x66 24 (by decide)).trans f24
      replace f25 := (x66 25 (by decide)).trans f25
      replace f26 := (x66 26 (by decide)).trans f26
      replace f27 := (x66 27 (by decide)).trans f27
      replace f28 := (x66 28 (by decide)).trans f28
      replace f29 := (x66 29 (by decide)).trans f29
      replace f30 := (x66 30 (by decide)).trans f30
      replace f31 := (x66 31 (by decide)).trans f31
      replace f32 := (x66 32 (by decide)).trans f32
      replace f33 := (x66 33 (by decide)).trans f33
      replace f34 := (x66 34 (by decide)).trans f34
      replace f35 := (x66 35 (by decide)).trans f35
      replace f36 := (x66 36 (by decide)).trans f36
      replace f37 := (x66 37 (by decide)).trans f37
      replace f38 := (x66 38 (by decide)).trans f38
      try clear f39
      have f39 := g66; clear g66
      replace d := d66.trans d; clear d66 x66
      refine gxh_do (i := 24) rfl (by kernel_rfl) (by kernel_rfl) (by kernel_rfl) (fun _ _ _ h => h) (v := (.bool (decide ((nameK k) = (nameK k))))) (gx_w11 rfl rfl f35) rfl (by decide) z hH (fun wz hk => (ex_bin rfl (gx_ev f37) (gx_ev f39) (rn_seql))) (fun A67 z67 g67 x67 d67 => ?_)
      clear z; have z := z67; clear z67
      replace f2 := (x67 2 (by decide)).trans f2
      replace f3 := (x67 3 (by decide)).trans f3
      replace f4 := (x67 4 (by decide)).trans f4
      replace f6 := (x67 6 (by decide)).trans f6
      replace f16 := (x67 16 (by decide)).trans f16
      replace f17 := (x67 17 (by decide)).trans f17
      replace f18 := (x67 18 (by decide)).trans f18
      replace f19 := (x67 19 (by decide)).trans f19
      replace f20 := (x67 20 (by decide)).trans f20
      replace f21 := (x67 21 (by decide)).trans f21
      replace f22 := (x67 22 (by decide)).trans f22
      replace f23 := (x67 23 (by decide)).trans f23
      replace f24 := (x67 24 (by decide)).trans f24
      replace f25 := (x67 25 (by decide)).trans f25
      replace f26 := (x67 26 (by decide)).trans f26
      replace f27 := (x67 27 (by decide)).trans f27
      replace f28 := (x67 28 (by decide)).trans f28
      replace f29 := (x67 29 (by decide)).trans f29
      replace f30 := (x67 30 (by decide)).trans f30
      replace f31 := (x67 31 (by decide)).trans f31
      replace f32 := (x67 32 (by decide)).trans f32
      replace f33 := (x67 33 (by decide)).trans f33
      replace f34 := (x67 34 (by decide)).trans f34
      replace f35 := (x67 35 (by decide)).trans f35
      replace f36 := (x67 36 (by decide)).trans f36
      replace f37 := (x67 37 (by decide)).trans f37
      replace f38 := (x67 38 (by decide)).trans f38
      replace f39 := (x67 39 (by decide)).trans f39
      try clear f40
      have f40 := g67; clear g67
      replace d := d67.trans d; clear d67 x67
      refine gxh_do (i := 25) rfl (by kernel_rfl) (by kernel_rfl) (by kernel_rfl) (fun _ _ _ h => h) (v := (.bool (decide ((nameK k) = (nameK k))))) (gx_w rfl) rfl (by decide) z hH (fun wz hk => (ex_pickT rfl (gx_ev f35) (gx_ev f40))) (fun A68 z68 g68 x68 d68 => ?_)
      clear z; have z := z68; clear z68
      replace f2 := (x68 2 (by decide)).trans f2
      replace f3 := (x68 3 (by decide)).trans f3
      replace f4 := (x68 4 (by decide)).trans f4
      replace f6 := (x68 6 (by decide)).trans f6
      replace f16 := (x68 16 (by decide)).trans f16
      replace f17 := (x68 17 (by decide)).trans f17
      replace f18 := (x68 18 (by decide)).trans f18
      replace f19 := (x68 19 (by decide)).trans f19
      replace f20 := (x68 20 (by decide)).trans f20
      replace f21 := (x68 21 (by decide)).trans f21
      replace f22 := (x68 22 (by decide)).trans f22
      replace f23 := (x68 23 (by decide)).trans f23
      replace f24 := (x68 24 (by decide)).trans f24
      replace f25 := (x68 25 (by decide)).trans f25
      replace f26 := (x68 26 (by decide)).trans f26
      replace f27 := (x68 27 (by decide)).trans f27
      replace f28 := (x68 28 (by decide)).trans f28
      replace f29 := (x68 29 (by decide)).trans f29
      replace f30 := (x68 30 (by decide)).trans f30
      replace f31 := (x68 31 (by decide)).trans f31
      replace f32 := (x68 32 (by decide)).trans f32
      replace f33 := (x68 33 (by decide)).trans f33
      replace f34 := (x68 34 (by decide)).trans f34
      replace f35 := (x68 35 (by decide)).trans f35
      replace f36 := (x68 36 (by decide)).trans f36
      replace f37 := (x68 37 (by decide)).trans f37
      replace f38 := (x68 38 (by decide)).trans f38
      replace f39 := (x68 39 (by decide)).trans f39
      replace f40 := (x68 40 (by decide)).trans f40
      try clear f41
      have f41 := g68; clear g68
      replace d := d68.trans d; clear d68 x68
      refine gxh_do (i := 26) rfl (by kernel_rfl) (by kernel_rfl) (by kernel_rfl) (fun _ _ _ h => h) (v := (.bool (decide ((nameK k) = (nameK k))))) (gx_w rfl) rfl (by decide) z hH (fun wz hk => (ex_assign rfl (gx_ev f41))) (fun A69 z69 g69 x69 d69 => ?_)
      clear z; have z := z69; clear z69
      replace f2 := (x69 2 (by decide)).trans f2
      replace f3 := (x69 3 (by decide)).trans f3
      replace f4 := (x69 4 (by decide)).trans f4
      replace f16 := (x69 16 (by decide)).trans f16
      replace f17 := (x69 17 (by decide)).trans f17
      replace f18 := (x69 18 (by decide)).trans f18
      replace f19 := (x69 19 (by decide)).trans f19
      replace f20 := (x69 20 (by decide)).trans f20
      replace f21 := (x69 21 (by decide)).trans f21
      replace f22 := (x69 22 (by decide)).trans f22
      replace f23 := (x69 23 (by decide)).trans f23
      replace f24 := (x69 24 (by decide)).trans f24
      replace f25 := (x69 25 (by decide)).trans f25
      replace f26 := (x69 26 (by decide)).trans f26
      replace f27 := (x69 27 (by decide)).trans f27
      replace f28 := (x69 28 (by decide)).trans f28
      replace f29 := (x69 29 (by decide)).trans f29
      replace f30 := (x69 30 (by decide)).trans f30
      replace f31 := (x69 31 (by decide)).trans f31
      replace f32 := (x69 32 (by decide)).trans f32
      replace f33 := (x69 33 (by decide)).trans f33
      replace f34 := (x69 34 (by decide)).trans f34
      replace f35 := (x69 35 (by decide)).trans f35
      replace f36 := (x69 36 (by decide)).trans f36
      replace f37 := (x69 37 (by decide)).trans f37
      replace f38 := (x69 38 (by decide)).trans f38
      replace f39 := (x69 39 (by decide)).trans f39
      replace f40 := (x69 40 (by decide)).trans f40
      replace f41 := (x69 41 (by decide)).trans f41
      try clear f6
      have f6 := g69; clear g69
      replace d := d69.trans d; clear d69 x69
      refine wpAnyH_done (by kernel_rfl) ?_ _
      replace k0 := k0.trans hH
      replace hB2 := hB2.kept hH (fun f => f)
      replace hB3 := hB3.kept hH (fun f => f)
      clear hH
      refine hK31 _ _ ?_
      refine gx_ret ?_
      refine (show bodyPost Tryd.prog Tryd.f3 (fun e w' => e = .returned (.bool true) ∧ Below w.heap.size w w') Exit.ret _ _ from ?_)
      exact bodyPost_ret (fn := Tryd.f3) (gx_res rfl f6) d (⟨by first | rfl | simp, k0.below (Nat.le_refl _) (fun _ _ f9 => f9)⟩)
theorem IsPk.at {w : World} {p : Pk} {s : Sl} (h : IsPk w p s) : p.At s w := ⟨h.hw.hrow, h.hf.hrow, h.hc.hrow, h.hp.hrow⟩
theorem packetSames_full (p : Pk) (s : Sl) (q : Pk) (t : Sl) (k : Int) (w : World) (w0 : IsPk w p s) (r0 : Reach p) (w1 : IsPk w q t) (r1 : Reach q) (w2 : (Lit.int .i64 k).wf = true) (hT : Tabs w) (hN : NamesAt w) :
    Calls Tryd.prog 3 #[p.val s, q.val t, .int .i64 k] w fun e w' => e = .returned (.bool true) ∧ Below w.heap.size w w' := by
  have b : IntKind.i64.min ≤ k ∧ k ≤ IntKind.i64.max := by simpa [Lit.wf] using w2
  exact packetSames_walk p s q t k w w0.at w1.at r0 r1 w0.hc.hnil w1.hc.hnil b.1 b.2 hT hN
end Go.Proofs.YtjihgcdhheoniaaDoor
