/-
  Layer 7's told.
-/
import Derived.Test.YtjihgcdhheoniaaDoorYFE
import Derived.Test.YtjihgcdhheoniaaDoorYFD
import Derived.Test.YtjihgcdhheoniaaDoorYFC
namespace Go.Proofs.YtjihgcdhheoniaaDoor
open Go.RowKit
set_option linter.unusedVariables false
set_option linter.unusedSimpArgs false
set_option maxRecDepth 100000

def tq : Pk := { zk 3 with qos := 1, topic := ⟨#[97]⟩, id := 7 }
def tqz : Pk := { zk 3 with qos := 1, topic := ⟨#[97]⟩ }
def ts : Sl := ⟨none, 0, none, 0, none, 0, none, 0⟩
theorem tq_at (w : World) : tq.At ts w := ⟨.nil _ _, .nil _ _, .nil _ _, .nil _ _⟩
theorem tqz_at (w : World) : tqz.At ts w := ⟨.nil _ _, .nil _ _, .nil _ _, .nil _ _⟩
theorem tq_few : tq.few := ⟨by decide, by decide, by decide, by decide⟩
theorem tqz_few : tqz.few := ⟨by decide, by decide, by decide, by decide⟩
theorem tq_wf : Wf tq := ⟨by simp [tq, zk], by simp [tq, zk]⟩
theorem tqz_wf : Wf tqz := ⟨by simp [tqz, zk], by simp [tqz, zk]⟩
theorem tq_pub (v : Int) : publishB v tq = true := by
  have h : nameB tq.topic = true := by decide +kernel
  unfold publishB
  rw [if_neg (by decide), if_neg (by decide), if_neg (by rintro ⟨_, h⟩; exact absurd h (by decide)), h]
theorem tqz_pub (v : Int) : publishB v tqz = false := by
  unfold publishB
  rw [if_neg (by decide), if_pos (by decide)]
theorem tq_sec (v : Int) : secN v tq.props ≤ 1 := by
  unfold secN
  split
  · omega
  · decide +kernel
theorem tq_size : tq.topic.size = 1 := rfl
theorem tq_lsize : tq.load.size = 0 := rfl
theorem tr_4 (w : World) (hT : Tabs w) : Calls Tryd.prog 11 #[.int .i64 4, Pk.val tq ts] w fun e w' => e = .returned (.bool true) ∧ Kept No w w' :=
  right3_yes 4 tq ts w rfl (tq_at w) tq_few tq_wf rfl (by rw [tq_size]; omega) (by rw [tq_lsize]; omega) hT (by decide) (by decide) (tq_pub 4) (by have := tq_sec 4; rw [tq_size, tq_lsize]; split <;> omega)
theorem tr_5 (w : World) (hT : Tabs w) : Calls Tryd.prog 11 #[.int .i64 5, Pk.val tq ts] w fun e w' => e = .returned (.bool true) ∧ Kept No w w' :=
  right3_yes 5 tq ts w rfl (tq_at w) tq_few tq_wf rfl (by rw [tq_size]; omega) (by rw [tq_lsize]; omega) hT (by decide) (by decide) (tq_pub 5) (by have := tq_sec 5; rw [tq_size, tq_lsize]; split <;> omega)
theorem tr_z (w : World) (hT : Tabs w) : Calls Tryd.prog 11 #[.int .i64 5, Pk.val tqz ts] w fun e w' => e = .returned (.bool false) ∧ Kept No w w' :=
  right3_pub 5 tqz ts w rfl (tqz_at w) tqz_few tqz_wf rfl (by decide) (by decide) hT (by decide) (by decide) (tqz_pub 5)
theorem tr_3 (w : World) (hT : Tabs w) : Calls Tryd.prog 11 #[.int .i64 3, Pk.val tq ts] w fun e w' => e = .returned (.bool false) ∧ Kept No w w' :=
  right3_no 3 tq ts w rfl (tq_at w) tq_few tq_wf rfl (by decide) (by decide) hT (by decide)
theorem ts_same (w : World) : Calls Tryd.prog 6 #[Pk.val tq ts, Pk.val tq ts] w fun e w' => e = .returned (.bool true) ∧ Kept No w w' := by
  have c := pksame_any tq tq ts ts w (tq_at w) (tq_at w) tq_few tq_few
  rw [sameB_eq, decide_eq_true rfl] at c
  exact c
theorem ts_diff (w : World) : Calls Tryd.prog 6 #[Pk.val tq ts, Pk.val tqz ts] w fun e w' => e = .returned (.bool false) ∧ Kept No w w' := by
  have c := pksame_any tq tqz ts ts w (tq_at w) (tqz_at w) tq_few tqz_few
  rw [sameB_eq, decide_eq_false (by intro h; exact absurd (congrArg Pk.id h) (by decide))] at c
  exact c
theorem NamesAt.kept {w w' : World} (h : NamesAt w) (hk : Kept No w w') : NamesAt w' := fun i hi => (hk.cell (p := ⟨0, i, none⟩) (cell_lt (h i hi)) (fun f => f)).trans (h i hi)
set_option maxHeartbeats 4000000 in
theorem told7_any (w : World) (hT : Tabs w) (hN : NamesAt w) : Calls Tryd.prog 5 #[] w fun e w' => e = .returned (.bool true) ∧ Kept No w w' := by
  go_enter Tryd.func5, Tryd.ntmps5
  generalize hA0 : ({ tmps := _, defers := [] } : Act) = A0
  have z : A0.tmps.size = 37 := by rw [← hA0]; rfl
  have d : A0.defers = [] := by rw [← hA0]
  clear hA0
  have k0 : Kept No w w := Kept.refl No w
  refine wp_seq_k (fun K1 hK1 => ?_)
  refine gx_region ?_
  refine gx_do (v := (.bool false)) (w' := w) (gx_w rfl) rfl (by decide) z (ex_assign rfl rfl) (fun A2 z2 g2 x2 d2 => ?_)
  clear z; have z := z2; clear z2
  try clear f0
  have f0 := g2; clear g2
  replace d := d2.trans d; clear d2 x2
  refine wpList_nil ?_
  refine hK1 _ _ ?_
  refine wp_seq_k (fun K3 hK3 => ?_)
  refine gx_region ?_
  refine gx_do (v := (Pk.val tq ts)) (w' := w) (gx_w rfl) rfl (by decide) z (ex_build rfl (gx_p1 rfl (gx_p1 rfl (gx_p1 rfl (gx_p1 rfl gx_p0)))) (by kernel_rfl)) (fun A4 z4 g4 x4 d4 => ?_)
  clear z; have z := z4; clear z4
  replace f0 := (x4 0 (by decide)).trans f0
  try clear f3
  have f3 := g4; clear g4
  replace d := d4.trans d; clear d4 x4
  refine gx_new (c := zeroPk) (t := 34) (gx_w rfl) rfl (by decide) z (ex_alloc rfl (al_34 _)) (fun b5 w5 A5 hB5 hk hN z5 g5 x5 d5 => ?_)
  have hN5 : w.heap.size ≤ b5 := Nat.le_trans k0.size hN; clear hN
  replace k0 := k0.trans hk
  clear hk
  clear z; have z := z5; clear z5
  replace f0 := (x5 0 (by decide)).trans f0
  replace f3 := (x5 3 (by decide)).trans f3
  try clear f1
  have f1 := g5; clear g5
  replace d := d5.trans d; clear d5 x5
  obtain ⟨w6, hr9, hB9, hk9⟩ := gx_storeAgg (P := Tryd.prog) (S := 34) (c := (Pk.cells tq ts)) w5 hB5 (gs_34 _) rfl (pk_one _ _)
  refine gx_st (gx_w rfl) rfl (ex_store rfl (gx_ev f1) (gx_ev f3) hr9) ?_
  replace hB5 := hB9
  replace k0 := k0.then hk9 (fun i9 hi9 e9 => by have e9 : i9 = b5 := e9; omega)
  clear hk9
  refine wpList_nil ?_
  refine hK3 _ _ ?_
  refine wp_seq_k (fun K7 hK7 => ?_)
  refine gx_region ?_
  refine gx_do (v := (Pk.val tq ts)) (w' := w6) (gx_w rfl) rfl (by decide) z (ex_load rfl (gx_ev f1) (gl_agg ((Pk.cells tq ts)) rfl (ga_34 _) (gs_34 _) (fun i => hB5.cell i))) (fun A8 z8 g8 x8 d8 => ?_)
  clear z; have z := z8; clear z8
  replace f0 := (x8 0 (by decide)).trans f0
  replace f1 := (x8 1 (by decide)).trans f1
  clear f3
  try clear f4
  have f4 := g8; clear g8
  replace d := d8.trans d; clear d8 x8
  refine gx_new (c := zeroPk) (t := 34) (gx_w rfl) rfl (by decide) z (ex_alloc rfl (al_34 _)) (fun b9 w9 A9 hB9 hk hN z9 g9 x9 d9 => ?_)
  have hl_b5_b9 : b5 < b9 := Nat.lt_of_lt_of_le hB5.lt hN
  have hN9 : w.heap.size ≤ b9 := Nat.le_trans k0.size hN; clear hN
  replace k0 := k0.trans hk
  replace hB5 := hB5.kept hk (fun f => f)
  clear hk
  clear z; have z := z9; clear z9
  replace f0 := (x9 0 (by decide)).trans f0
  replace f1 := (x9 1 (by decide)).trans f1
  replace f4 := (x9 4 (by decide)).trans f4
  try clear f2
  have f2 := g9; clear g9
  replace d := d9.trans d; clear d9 x9
  obtain ⟨w10, hr9, hB9, hk9⟩ := gx_storeAgg (P := Tryd.prog) (S := 34) (c := (Pk.cells tq ts)) w9 hB9 (gs_34 _) rfl (pk_one _ _)
  refine gx_st (gx_w rfl) rfl (ex_store rfl (gx_ev f2) (gx_ev f4) hr9) ?_
  replace hB5 := hB5.kept hk9 (fun e9 => by have e9 : b5 = b9 := e9; omega)
  replace hB9 := hB9
  replace k0 := k0.then hk9 (fun i9 hi9 e9 => by have e9 : i9 = b9 := e9; omega)
  clear hk9
  refine wpList_nil ?_
  refine hK7 _ _ ?_
  refine wp_seq_k (fun K11 hK11 => ?_)
  refine gx_region ?_
  refine gx_do (v := (.pointer (some ⟨b9, 4, none⟩))) (w' := w10) (gx_w rfl) rfl (by decide) z (ex_faddr rfl (gx_ev f2) (fa_34_4 _ _ _)) (fun A12 z12 g12 x12 d12 => ?_)
  clear z; have z := z12; clear z12
  replace f0 := (x12 0 (by decide)).trans f0
  replace f1 := (x12 1 (by decide)).trans f1
  replace f2 := (x12 2 (by decide)).trans f2
  clear f4
  try clear f5
  have f5 := g12; clear g12
  replace d := d12.trans d; clear d12 x12
  obtain ⟨w13, hr9, hB9, hk9⟩ := gx_set (P := Tryd.prog) (T := 22) (i := 4) (v := (.int .u16 0)) (c' := (Pk.cells tqz ts)) w10 hB9 (gs1_22 _) rfl (by simp [Pk.cells, zeroPk]) rfl
  refine gx_st (gx_w rfl) rfl (ex_store rfl (gx_ev f5) rfl hr9) ?_
  replace hB5 := hB5.kept hk9 (fun e9 => by have e9 : b5 = b9 := e9; omega)
  replace hB9 := hB9
  replace k0 := k0.then hk9 (fun i9 hi9 e9 => by have e9 : i9 = b9 := e9; omega)
  clear hk9
  refine wpList_nil ?_
  refine hK11 _ _ ?_
  refine wp_seq_k (fun K14 hK14 => ?_)
  refine gx_region ?_
  refine gx_do (v := (Pk.val tq ts)) (w' := w13) (gx_w rfl) rfl (by decide) z (ex_load rfl (gx_ev f1) (gl_agg ((Pk.cells tq ts)) rfl (ga_34 _) (gs_34 _) (fun i => hB5.cell i))) (fun A15 z15 g15 x15 d15 => ?_)
  clear z; have z := z15; clear z15
  replace f0 := (x15 0 (by decide)).trans f0
  replace f1 := (x15 1 (by decide)).trans f1
  replace f2 := (x15 2 (by decide)).trans f2
  clear f5
  try clear f6
  have f6 := g15; clear g15
  replace d := d15.trans d; clear d15 x15
  refine gx_call (R := fun vv ww => vv = (.bool true) ∧ Kept No w13 ww) (gx_w rfl) rfl (by decide) z (ex_call rfl rfl (gx_l1 rfl (gx_l1 (gx_ev f6) gx_l0)) (gx_fn Tryd.func11 (by kernel_rfl) rfl)) ((tr_4 _ (hT.kept k0)).mono fun e9 ww h9 => ⟨_, h9.1, rfl, h9.2⟩) (fun vv w17 A17 hR z17 g17 x17 d17 => ?_)
  obtain ⟨rfl, hk⟩ := hR
  replace k0 := k0.trans hk
  replace hB5 := hB5.kept hk (fun f => f)
  replace hB9 := hB9.kept hk (fun f => f)
  clear hk
  clear z; have z := z17; clear z17
  replace f0 := (x17 0 (by decide)).trans f0
  replace f1 := (x17 1 (by decide)).trans f1
  replace f2 := (x17 2 (by decide)).trans f2
  clear f6
  try clear f7
  have f7 := g17; clear g17
  replace d := d17.trans d; clear d17 x17
  refine gx_do (v := (.bool true)) (w' := w17) (gx_w rfl) rfl (by decide) z (ex_move rfl (gx_ev f7)) (fun A18 z18 g18 x18 d18 => ?_)
  clear z; have z := z18; clear z18
  replace f0 := (x18 0 (by decide)).trans f0
  replace f1 := (x18 1 (by decide)).trans f1
  replace f2 := (x18 2 (by decide)).trans f2
  clear f7
  try clear f8
  have f8 := g18; clear g18
  replace d := d18.trans d; clear d18 x18
  refine gx_do (v := (Pk.val tq ts)) (w' := w17) (gx_w11 rfl rfl f8) rfl (by decide) z (ex_load rfl (gx_ev f1) (gl_agg ((Pk.cells tq ts)) rfl (ga_34 _) (gs_34 _) (fun i => hB5.cell i))) (fun A19 z19 g19 x19 d19 => ?_)
  clear z; have z := z19; clear z19
  replace f0 := (x19 0 (by decide)).trans f0
  replace f1 := (x19 1 (by decide)).trans f1
  replace f2 := (x19 2 (by decide)).trans f2
  replace f8 := (x19 8 (by decide)).trans f8
  try clear f9
  have f9 := g19; clear g19
  replace d := d19.trans d; clear d19 x19
  refine gx_call (R := fun vv ww => vv = (.bool true) ∧ Kept No w17 ww) (gx_w11 rfl rfl f8) rfl (by decide) z (ex_call rfl rfl (gx_l1 rfl (gx_l1 (gx_ev f9) gx_l0)) (gx_fn Tryd.func11 (by kernel_rfl) rfl)) ((tr_5 _ (hT.kept k0)).mono fun e9 ww h9 => ⟨_, h9.1, rfl, h9.2⟩) (fun vv w21 A21 hR z21 g21 x21 d21 => ?_)
  obtain ⟨rfl, hk⟩ := hR
  replace k0 := k0.trans hk
  replace hB5 := hB5.kept hk (fun f => f)
  replace hB9 := hB9.kept hk (fun f => f)
  clear hk
  clear z; have z := z21; clear z21
  replace f0 := (x21 0 (by decide)).trans f0
  replace f1 := (x21 1 (by decide)).trans f1
  replace f2 := (x21 2 (by decide)).trans f2
  replace f8 := (x21 8 (by decide)).trans f8
  clear f9
  try clear f10
  have f10 := g21; clear g21
  replace d := d21.trans d; clear d21 x21
  refine gx_do (v := (.bool true)) (w' := w21) (gx_w rfl) rfl (by decide) z (ex_pickT rfl (gx_ev f8) (gx_ev f10)) (fun A22 z22 g22 x22 d22 => ?_)
  clear z; have z := z22; clear z22
  replace f0 := (x22 0 (by decide)).trans f0
  replace f1 := (x22 1 (by decide)).trans f1
  replace f2 := (x22 2 (by decide)).trans f2
  clear f8
  clear f10
  try clear f11
  have f11 := g22; clear g22
  replace d := d22.trans d; clear d22 x22
  refine gx_do (v := (.bool true)) (w' := w21) (gx_w rfl) rfl (by decide) z (ex_move rfl (gx_ev f11)) (fun A23 z23 g23 x23 d23 => ?_)
  clear z; have z := z23; clear z23
  replace f0 := (x23 0 (by decide)).trans f0
  replace f1 := (x23 1 (by decide)).trans f1
  replace f2 := (x23 2 (by decide)).trans f2
  clear f11
  try clear f12
  have f12 := g23; clear g23
  replace d := d23.trans d; clear d23 x23
  refine gx_do (v := (Pk.val tqz ts)) (w' := w21) (gx_w11 rfl rfl f12) rfl (by decide) z (ex_load rfl (gx_ev f2) (gl_agg ((Pk.cells tqz ts)) rfl (ga_34 _) (gs_34 _) (fun i => hB9.cell i))) (fun A24 z24 g24 x24 d24 => ?_)
  clear z; have z := z24; clear z24
  replace f0 := (x24 0 (by decide)).trans f0
  replace f1 := (x24 1 (by decide)).trans f1
  replace f2 := (x24 2 (by decide)).trans f2
  replace f12 := (x24 12 (by decide)).trans f12
  try clear f13
  have f13 := g24; clear g24
  replace d := d24.trans d; clear d24 x24
  refine gx_call (R := fun vv ww => vv = (.bool false) ∧ Kept No w21 ww) (gx_w11 rfl rfl f12) rfl (by decide) z (ex_call rfl rfl (gx_l1 rfl (gx_l1 (gx_ev f13) gx_l0)) (gx_fn Tryd.func11 (by kernel_rfl) rfl)) ((tr_z _ (hT.kept k0)).mono fun e9 ww h9 => ⟨_, h9.1, rfl, h9.2⟩) (fun vv w26 A26 hR z26 g26 x26 d26 => ?_)
  obtain ⟨rfl, hk⟩ := hR
  replace k0 := k0.trans hk
  replace hB5 := hB5.kept hk (fun f => f)
  replace hB9 := hB9.kept hk (fun f => f)
  clear hk
  clear z; have z := z26; clear z26
  replace f0 := (x26 0 (by decide)).trans f0
  replace f1 := (x26 1 (by decide)).trans f1
  replace f2 := (x26 2 (by decide)).trans f2
  replace f12 := (x26 12 (by decide)).trans f12
  clear f13
  try clear f14
  have f14 := g26; clear g26
  replace d := d26.trans d; clear d26 x26
  refine gx_do (v := (.bool true)) (w' := w26) (gx_w11 rfl rfl f12) rfl (by decide) z (ex_not rfl (gx_ev f14)) (fun A27 z27 g27 x27 d27 => ?_)
  clear z; have z := z27; clear z27
  replace f0 := (x27 0 (by decide)).trans f0
  replace f1 := (x27 1 (by decide)).trans f1
  replace f2 := (x27 2 (by decide)).trans f2
  replace f12 := (x27 12 (by decide)).trans f12
  clear f14
  try clear f15
  have f15 := g27; clear g27
  replace d := d27.trans d; clear d27 x27
  refine gx_do (v := (.bool true)) (w' := w26) (gx_w rfl) rfl (by decide) z (ex_pickT rfl (gx_ev f12) (gx_ev f15)) (fun A28 z28 g28 x28 d28 => ?_)
  clear z; have z := z28; clear z28
  replace f0 := (x28 0 (by decide)).trans f0
  replace f1 := (x28 1 (by decide)).trans f1
  replace f2 := (x28 2 (by decide)).trans f2
  clear f12
  clear f15
  try clear f16
  have f16 := g28; clear g28
  replace d := d28.trans d; clear d28 x28
  refine gx_do (v := (.bool true)) (w' := w26) (gx_w rfl) rfl (by decide) z (ex_move rfl (gx_ev f16)) (fun A29 z29 g29 x29 d29 => ?_)
  clear z; have z := z29; clear z29
  replace f0 := (x29 0 (by decide)).trans f0
  replace f1 := (x29 1 (by decide)).trans f1
  replace f2 := (x29 2 (by decide)).trans f2
  clear f16
  try clear f17
  have f17 := g29; clear g29
  replace d := d29.trans d; clear d29 x29
  refine gx_do (v := (Pk.val tq ts)) (w' := w26) (gx_w11 rfl rfl f17) rfl (by decide) z (ex_load rfl (gx_ev f1) (gl_agg ((Pk.cells tq ts)) rfl (ga_34 _) (gs_34 _) (fun i => hB5.cell i))) (fun A30 z30 g30 x30 d30 => ?_)
  clear z; have z := z30; clear z30
  replace f0 := (x30 0 (by decide)).trans f0
  replace f1 := (x30 1 (by decide)).trans f1
  replace f2 := (x30 2 (by decide)).trans f2
  replace f17 := (x30 17 (by decide)).trans f17
  try clear f18
  have f18 := g30; clear g30
  replace d := d30.trans d; clear d30 x30
  refine gx_call (R := fun vv ww => vv = (.bool false) ∧ Kept No w26 ww) (gx_w11 rfl rfl f17) rfl (by decide) z (ex_call rfl rfl (gx_l1 rfl (gx_l1 (gx_ev f18) gx_l0)) (gx_fn Tryd.func11 (by kernel_rfl) rfl)) ((tr_3 _ (hT.kept k0)).mono fun e9 ww h9 => ⟨_, h9.1, rfl, h9.2⟩) (fun vv w32 A32 hR z32 g32 x32 d32 => ?_)
  obtain ⟨rfl, hk⟩ := hR
  replace k0 := k0.trans hk
  replace hB5 := hB5.kept hk (fun f => f)
  replace hB9 := hB9.kept hk (fun f => f)
  clear hk
  clear z; have z := z32; clear z32
  replace f0 := (x32 0 (by decide)).trans f0
  replace f1 := (x32 1 (by decide)).trans f1
  replace f2 := (x32 2 (by decide)).trans f2
  replace f17 := (x32 17 (by decide)).trans f17
  clear f18
  try clear f19
  have f19 := g32; clear g32
  replace d := d32.trans d; clear d32 x32
  refine gx_do (v := (.bool true)) (w' := w32) (gx_w11 rfl rfl f17) rfl (by decide) z (ex_not rfl (gx_ev f19)) (fun A33 z33 g33 x33 d33 => ?_)
  clear z; have z := z33; clear z33
  replace f0 := (x33 0 (by decide)).trans f0
  replace f1 := (x33 1 (by decide)).trans f1
  replace f2 := (x33 2 (by decide)).trans f2
  replace f17 := (x33 17 (by decide)).trans f17
  clear f19
  try clear f20
  have f20 := g33; clear g33
  replace d := d33.trans d; clear d33 x33
  refine gx_do (v := (.bool true)) (w' := w32) (gx_w rfl) rfl (by decide) z (ex_pickT rfl (gx_ev f17) (gx_ev f20)) (fun A34 z34 g34 x34 d34 => ?_)
  clear z; have z := z34; clear z34
  replace f0 := (x34 0 (by decide)).trans f0
  replace f1 := (x34 1 (by decide)).trans f1
  replace f2 := (x34 2 (by decide)).trans f2
  clear f17
  clear f20
  try clear f21
  have f21 := g34; clear g34
  replace d := d34.trans d; clear d34 x34
  refine gx_do (v := (.bool true)) (w' := w32) (gx_w rfl) rfl (by decide) z (ex_move rfl (gx_ev f21)) (fun A35 z35 g35 x35 d35 => ?_)
  clear z; have z := z35; clear z35
  replace f0 := (x35 0 (by decide)).trans f0
  replace f1 := (x35 1 (by decide)).trans f1
  replace f2 := (x35 2 (by decide)).trans f2
  clear f21
  try clear f22
  have f22 := g35; clear g35
  replace d := d35.trans d; clear d35 x35
  refine gx_do (v := (Pk.val tq ts)) (w' := w32) (gx_w11 rfl rfl f22) rfl (by decide) z (ex_load rfl (gx_ev f1) (gl_agg ((Pk.cells tq ts)) rfl (ga_34 _) (gs_34 _) (fun i => hB5.cell i))) (fun A36 z36 g36 x36 d36 => ?_)
  clear z; have z := z36; clear z36
  replace f0 := (x36 0 (by decide)).trans f0
  replace f1 := (x36 1 (by decide)).trans f1
  replace f2 := (x36 2 (by decide)).trans f2
  replace f22 := (x36 22 (by decide)).trans f22
  try clear f23
  have f23 := g36; clear g36
  replace d := d36.trans d; clear d36 x36
  refine gx_do (v := (Pk.val tq ts)) (w' := w32) (gx_w11 rfl rfl f22) rfl (by decide) z (ex_load rfl (gx_ev f1) (gl_agg ((Pk.cells tq ts)) rfl (ga_34 _) (gs_34 _) (fun i => hB5.cell i))) (fun A37 z37 g37 x37 d37 => ?_)
  clear z; have z := z37; clear z37
  replace f0 := (x37 0 (by decide)).trans f0
  replace f1 := (x37 1 (by decide)).trans f1
  replace f2 := (x37 2 (by decide)).trans f2
  replace f22 := (x37 22 (by decide)).trans f22
  replace f23 := (x37 23 (by decide)).trans f23
  try clear f24
  have f24 := g37; clear g37
  replace d := d37.trans d; clear d37 x37
  refine gx_call (R := fun vv ww => vv = (.bool true) ∧ Kept No w32 ww) (gx_w11 rfl rfl f22) rfl (by decide) z (ex_call rfl rfl (gx_l1 (gx_ev f23) (gx_l1 (gx_ev f24) gx_l0)) (gx_fn Tryd.func6 (by kernel_rfl) rfl)) ((ts_same _).mono fun e9 ww h9 => ⟨_, h9.1, rfl, h9.2⟩) (fun vv w39 A39 hR z39 g39 x39 d39 => ?_)
  obtain ⟨rfl, hk⟩ := hR
  replace k0 := k0.trans hk
  replace hB5 := hB5.kept hk (fun f => f)
  replace hB9 := hB9.kept hk (fun f => f)
  clear hk
  clear z; have z := z39; clear z39
  replace f0 := (x39 0 (by decide)).trans f0
  replace f1 := (x39 1 (by decide)).trans f1
  replace f2 := (x39 2 (by decide)).trans f2
  replace f22 := (x39 22 (by decide)).trans f22
  clear f23
  clear f24
  try clear f25
  have f25 := g39; clear g39
  replace d := d39.trans d; clear d39 x39
  refine gx_do (v := (.bool true)) (w' := w39) (gx_w rfl) rfl (by decide) z (ex_pickT rfl (gx_ev f22) (gx_ev f25)) (fun A40 z40 g40 x40 d40 => ?_)
  clear z; have z := z40; clear z40
  replace f0 := (x40 0 (by decide)).trans f0
  replace f1 := (x40 1 (by decide)).trans f1
  replace f2 := (x40 2 (by decide)).trans f2
  clear f22
  clear f25
  try clear f26
  have f26 := g40; clear g40
  replace d := d40.trans d; clear d40 x40
  refine gx_do (v := (.bool true)) (w' := w39) (gx_w rfl) rfl (by decide) z (ex_move rfl (gx_ev f26)) (fun A41 z41 g41 x41 d41 => ?_)
  clear z; have z := z41; clear z41
  replace f0 := (x41 0 (by decide)).trans f0
  replace f1 := (x41 1 (by decide)).trans f1
  replace f2 := (x41 2 (by decide)).trans f2
  clear f26
  try clear f27
  have f27 := g41; clear g41
  replace d := d41.trans d; clear d41 x41
  refine gx_do (v := (Pk.val tq ts)) (w' := w39) (gx_w11 rfl rfl f27) rfl (by decide) z (ex_load rfl (gx_ev f1) (gl_agg ((Pk.cells tq ts)) rfl (ga_34 _) (gs_34 _) (fun i => hB5.cell i))) (fun A42 z42 g42 x42 d42 => ?_)
  clear z; have z := z42; clear z42
  replace f0 := (x42 0 (by decide)).trans f0
  clear f1
  replace f2 := (x42 2 (by decide)).trans f2
  replace f27 := (x42 27 (by decide)).trans f27
  try clear f28
  have f28 := g42; clear g42
  replace d := d42.trans d; clear d42 x42
  refine gx_do (v := (Pk.val tqz ts)) (w' := w39) (gx_w11 rfl rfl f27) rfl (by decide) z (ex_load rfl (gx_ev f2) (gl_agg ((Pk.cells tqz ts)) rfl (ga_34 _) (gs_34 _) (fun i => hB9.cell i))) (fun A43 z43 g43 x43 d43 => ?_)
  clear z; have z := z43; clear z43
  replace f0 := (x43 0 (by decide)).trans f0
  clear f2
  replace f27 := (x43 27 (by decide)).trans f27
  replace f28 := (x43 28 (by decide)).trans f28
  try clear f29
  have f29 := g43; clear g43
  replace d := d43.trans d; clear d43 x43
  refine gx_call (R := fun vv ww => vv = (.bool false) ∧ Kept No w39 ww) (gx_w11 rfl rfl f27) rfl (by decide) z (ex_call rfl rfl (gx_l1 (gx_ev f28) (gx_l1 (gx_ev f29) gx_l0)) (gx_fn Tryd.func6 (by kernel_rfl) rfl)) ((ts_diff _).mono fun e9 ww h9 => ⟨_, h9.1, rfl, h9.2⟩) (fun vv w45 A45 hR z45 g45 x45 d45 => ?_)
  obtain ⟨rfl, hk⟩ := hR
  replace k0 := k0.trans hk
  replace hB5 := hB5.kept hk (fun f => f)
  replace hB9 := hB9.kept hk (fun f => f)
  clear hk
  clear z; have z := z45; clear z45
  replace f0 := (x45 0 (by decide)).trans f0
  replace f27 := (x45 27 (by decide)).trans f27
  clear f28
  clear f29
  try clear f30
  have f30 := g45; clear g45
  replace d := d45.trans d; clear d45 x45
  refine gx_do (v := (.bool true)) (w' := w45) (gx_w11 rfl rfl f27) rfl (by decide) z (ex_not rfl (gx_ev f30)) (fun A46 z46 g46 x46 d46 => ?_)
  clear z; have z := z46; clear z46
  replace f0 := (x46 0 (by decide)).trans f0
  replace f27 := (x46 27 (by decide)).trans f27
  clear f30
  try clear f31
  have f31 := g46; clear g46
  replace d := d46.trans d; clear d46 x46
  refine gx_do (v := (.bool true)) (w' := w45) (gx_w rfl) rfl (by decide) z (ex_pickT rfl (gx_ev f27) (gx_ev f31)) (fun A47 z47 g47 x47 d47 => ?_)
  clear z; have z := z47; clear z47
  replace f0 := (x47 0 (by decide)).trans f0
  clear f27
  clear f31
  try clear f32
  have f32 := g47; clear g47
  replace d := d47.trans d; clear d47 x47
  refine gx_do (v := (.bool true)) (w' := w45) (gx_w rfl) rfl (by decide) z (ex_move rfl (gx_ev f32)) (fun A48 z48 g48 x48 d48 => ?_)
  clear z; have z := z48; clear z48
  replace f0 := (x48 0 (by decide)).trans f0
  clear f32
  try clear f33
  have f33 := g48; clear g48
  replace d := d48.trans d; clear d48 x48
  refine gx_call (R := fun vv ww => vv = (.string ((nameK 15))) ∧ Kept No w45 ww) (gx_w11 rfl rfl f33) rfl (by decide) z (ex_call rfl rfl (gx_l1 rfl gx_l0) (gx_fn Tryd.func9 (by kernel_rfl) rfl)) ((pname_any 15 _ (by omega) (by omega) (hN.kept k0)).mono fun e9 ww h9 => ⟨_, h9.1, rfl, h9.2 ▸ Kept.refl No _⟩) (fun vv w50 A50 hR z50 g50 x50 d50 => ?_)
  obtain ⟨rfl, hk⟩ := hR
  replace k0 := k0.trans hk
  replace hB5 := hB5.kept hk (fun f => f)
  replace hB9 := hB9.kept hk (fun f => f)
  clear hk
  clear z; have z := z50; clear z50
  replace f0 := (x50 0 (by decide)).trans f0
  replace f33 := (x50 33 (by decide)).trans f33
  try clear f34
  have f34 := g50; clear g50
  replace d := d50.trans d; clear d50 x50
  refine gx_do (v := (.bool (decide ((nameK 15) = ⟨#[97, 117, 116, 104]⟩)))) (w' := w50) (gx_w11 rfl rfl f33) rfl (by decide) z (ex_bin rfl (gx_ev f34) rfl (rn_seql)) (fun A51 z51 g51 x51 d51 => ?_)
  clear z; have z := z51; clear z51
  replace f0 := (x51 0 (by decide)).trans f0
  replace f33 := (x51 33 (by decide)).trans f33
  clear f34
  try clear f35
  have f35 := g51; clear g51
  replace d := d51.trans d; clear d51 x51
  refine gx_do (v := (.bool (decide ((nameK 15) = ⟨#[97, 117, 116, 104]⟩)))) (w' := w50) (gx_w rfl) rfl (by decide) z (ex_pickT rfl (gx_ev f33) (gx_ev f35)) (fun A52 z52 g52 x52 d52 => ?_)
  clear z; have z := z52; clear z52
  replace f0 := (x52 0 (by decide)).trans f0
  clear f33
  clear f35
  try clear f36
  have f36 := g52; clear g52
  replace d := d52.trans d; clear d52 x52
  refine gx_do (v := (.bool (decide ((nameK 15) = ⟨#[97, 117, 116, 104]⟩)))) (w' := w50) (gx_w rfl) rfl (by decide) z (ex_assign rfl (gx_ev f36)) (fun A53 z53 g53 x53 d53 => ?_)
  clear z; have z := z53; clear z53
  clear f36
  try clear f0
  have f0 := g53; clear g53
  replace d := d53.trans d; clear d53 x53
  refine wpList_nil ?_
  refine hK14 _ _ ?_
  refine gx_ret ?_
  exact bodyPost_ret (fn := Tryd.f5) (gx_res rfl f0) d (⟨by rw [decide_eq_true (by decide)], k0⟩)
end Go.Proofs.YtjihgcdhheoniaaDoor
