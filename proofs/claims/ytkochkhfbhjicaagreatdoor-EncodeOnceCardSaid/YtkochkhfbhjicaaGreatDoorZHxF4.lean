/-
  The document's Fix of packets.
-/
import Derived.Test.YtkochkhfbhjicaaGreatDoorYFT
import Derived.Test.YtkochkhfbhjicaaGreatDoorYFL
import Derived.Test.YtkochkhfbhjicaaGreatDoorYFV
namespace Go.Proofs.YtkochkhfbhjicaaGreatDoor
open Go.RowKit
set_option linter.unusedVariables false
set_option linter.unusedSimpArgs false
set_option maxRecDepth 100000

set_option maxHeartbeats 4000000 in
theorem jLk (p : Pk) (s : Sl) (w : World) (hp : p.At s w) (hY : Any p) :
    Calls Tryz.prog 4 #[.int .i64 4, p.val s] w (j9j 4 w) := by
  obtain ⟨k, hkm, hk⟩ := j64 p.kind 14 (by decide) (by decide)
  have hR := hY.r
  have b1 := hR.client; have b2 := hR.willTopic; have b3 := hR.willLoad; have b4 := hR.user; have b5 := hR.pass; have b6 := hR.topic; have b7 := hR.load; have b8 := hR.nf; have b9 := hR.nc; have bp := hR.np; have bw := hR.nw
  have hq := hY.qos; have hid := hY.id; have hcode := hY.code; have hwq := hY.wq
  let RR : Ending → World → Prop := j9j 4 w
  go_enter Tryz.func4, Tryz.ntmps4
  generalize hA : ({ tmps := _, defers := [] } : Act) = A
  have F : Fr A 340 [(1, (Pk.val p s)), (0, (.int .i64 4))] := by rw [← hA]; exact (Fr.cons (i := 1) (v := (Pk.val p s)) (Fr.cons (i := 0) (v := (.int .i64 4)) (Fr.nil0 rfl rfl) rfl) rfl)
  clear hA; have H := Hp.start w
  refine wp_seq_k (fun K1 hK1 => jB ?_)
  refine jj (c := (Pk.cells p s)) (t := 27) F H rfl (qW rfl (F.e rfl) (qX _ _)) ?_; clear F A; intro b2 W A hk hN H9 F; clear H; have H := H9; clear H9
  clear hk hN
  refine jj (c := jm) (t := 27) F H rfl (jq rfl (j78 _)) ?_; clear F A; intro b3 W A hk hN H9 F; clear H; have H := H9; clear H9
  clear hk hN
  refine wpList_nil (hK1 _ _ ?_)
  refine wp_seq_k (fun K4 hK4 => jB ?_)
  refine zd ?_; clear F A; intro A F
  refine wpList_nil (hK4 _ _ ?_)
  refine wp_seq_k (fun K5 hK5 => ?_)
  refine wp_seq_k (fun K6 hK6 => jB ?_)
  refine zd ?_; clear F A; intro A F
  refine zb (jL) ?_; clear F A; intro A F
  refine wpList_nil (hK6 _ _ ?_)
  refine wp_cond_false (F.e rfl) ?_
  refine wp_skip (hK5 _ _ ?_)
  refine wp_seq_k (fun K7 hK7 => jB ?_)
  refine j7 F rfl (jA rfl (F.e rfl) (jE ((Pk.cells p s)) rfl (qR _) (jg _) (fun i => H.cs 1 rfl i))) ?_; clear F A; intro A F
  refine jj (c := jm) (t := 27) F H rfl (jq rfl (j78 _)) ?_; clear F A; intro b8 W A hk hN H9 F; clear H; have H := H9; clear H9
  clear hk hN
  obtain ⟨W9, hr, hB, hk⟩ := jC (P := Tryz.prog) (S := 27) (c := (Pk.cells p s)) _ (H.b.at_ (j := 0) rfl).1 (jg _) rfl (ja _ _)
  refine q9 (jJ rfl (F.e rfl) (F.e rfl) hr) ?_; clear hr; replace H : Hp _ _ [_, _, _] := Hp.turn [] H hk hB; clear hk hB
  refine wpList_nil (hK7 _ _ ?_)
  refine wp_seq_k (fun K9 hK9 => jB ?_)
  iterate 2 (refine zd ?_; clear F A; intro A F)
  refine j7 F rfl (vZ rfl (F.e rfl) (j5f _ _)) ?_; clear F A; intro A F
  refine zd ?_; clear F A; intro A F
  refine j7 F rfl (vZ rfl (F.e rfl) ((j5f _ _).trans rfl)) ?_; clear F A; intro A F
  refine zb (j95 (by decide) hkm) ?_; clear F A; intro A F
  refine j7 F rfl (vZ rfl (F.e rfl) (jB6 _ _ (by omega))) ?_; clear F A; intro A F
  refine j7 F rfl (jF rfl jD (F.e rfl) (jd (jK (by omega) (by omega)))) ?_; clear F A; intro A F
  refine zd ?_; clear F A; intro A F
  let P10 : Pk := { p with kind := 1 + ((k : Int)) }
  refine zs [] ((Pk.cells P10 s)) ?_; intro W H9 hk
  clear H hk; have H := H9; clear H9
  refine wpList_nil (hK9 _ _ ?_)
  refine wp_seq_k (fun K11 hK11 => ?_)
  refine wp_region_held_drew (S := fun wx => ∃ c9, Hp _ wx [⟨b8, 27, c9⟩, _, _]) (by kernel_rfl) ⟨_, H.drew⟩ (fun H9 => ?_); clear H9; replace H := H.drew
  generalize World.drew _ = W at *
  refine td 0 ?_; clear F A; intro A F
  refine td 1 ?_; clear F A; intro A F
  refine td 3 ?_; clear F A; intro A F
  refine td 4 ?_; clear F A; intro A F
  refine td 6 ?_; clear F A; intro A F
  refine td 7 ?_; clear F A; intro A F
  refine td 9 ?_; clear F A; intro A F
  refine td 10 ?_; clear F A; intro A F
  refine jO (i := 2) (by kernel_rfl) (jZ (i := 2) F rfl rfl (j6 rfl rfl (j0 (F.e rfl) j9) jJ0) (z7 p.client _ (by omega)) (fun _ hk => ⟨_, (H.kept hk)⟩) ?_); clear F A; intro W A hk _ F; replace H := H.kept hk
  clear hk
  refine td 12 ?_; clear F A; intro A F
  refine jO (i := 5) (by kernel_rfl) (jZ (i := 5) F rfl rfl (j6 rfl rfl (j0 (F.e rfl) j9) jJ0) (z7 p.user _ (by omega)) (fun _ hk => ⟨_, (H.kept hk)⟩) ?_); clear F A; intro W A hk _ F; replace H := H.kept hk
  clear hk
  refine jO (i := 8) (by kernel_rfl) (jZ (i := 8) F rfl rfl (j6 rfl rfl (j0 (F.e rfl) j9) jCp) (j1l p.topic _ (by omega)) (fun _ hk => ⟨_, (H.kept hk)⟩) ?_); clear F A; intro W A hk _ F; replace H := H.kept hk
  clear hk
  refine jO (i := 11) (by kernel_rfl) (jZ (i := 11) F rfl rfl (j6 rfl rfl (j0 (F.e rfl) j9) jCp) (j1l p.willTopic _ (by omega)) (fun _ hk => ⟨_, (H.kept hk)⟩) ?_); clear F A; intro W A hk _ F; replace H := H.kept hk
  clear hk
  let P16 : Pk := { P10 with client := (vX p.client) }
  refine tst 13 [] ((Pk.cells P16 s)) ?_; intro W H9 hk
  clear H hk; have H := H9; clear H9
  refine td 14 ?_; clear F A; intro A F
  let P17 : Pk := { P16 with user := (vX p.user) }
  refine tst 15 [] ((Pk.cells P17 s)) ?_; intro W H9 hk
  clear H hk; have H := H9; clear H9
  refine td 16 ?_; clear F A; intro A F
  let P18 : Pk := { P17 with topic := (zN p.topic) }
  refine tst 17 [] ((Pk.cells P18 s)) ?_; intro W H9 hk
  clear H hk; have H := H9; clear H9
  refine td 18 ?_; clear F A; intro A F
  let P19 : Pk := { P18 with willTopic := (zN p.willTopic) }
  refine tst 19 [] ((Pk.cells P19 s)) ?_; intro W H9 hk
  clear H hk; have H := H9; clear H9
  refine wpAnyH_done (by kernel_rfl) ?_ _
  refine hK11 _ _ ?_
  refine wp_seq_k (fun K20 hK20 => ?_)
  refine wp_region_held_drew (S := fun wx => ∃ c9, Hp _ wx [⟨b8, 27, c9⟩, _, _]) (by kernel_rfl) ⟨_, H.drew⟩ (fun H9 => ?_); clear H9; replace H := H.drew
  generalize World.drew _ = W at *
  refine td 0 ?_; clear F A; intro A F
  refine td 1 ?_; clear F A; intro A F
  refine td 2 ?_; clear F A; intro A F
  refine td 3 ?_; clear F A; intro A F
  refine jG (v := (.int .i64 ((p.pass.size : Int)))) (i := 4) F rfl rfl (by kernel_rfl) (fun _ _ _ h => h) (⟨_, H⟩) (fun wz ⟨c9, H⟩ => (qH rfl (j0 (F.e rfl) j9) (vk Tryz.underlying9))) ?_; clear F A; intro A F
  refine jG (v := (.int .i64 (((min p.pass.size 9 : Nat) : Int)))) (i := 5) F rfl rfl (by kernel_rfl) (fun _ _ _ h => h) (⟨_, H⟩) (fun wz ⟨c9, H⟩ => (j0r rfl (j0 (F.e rfl) (j0 jD j9)))) ?_; clear F A; intro A F
  refine jG (v := (.string ((j0j 9 p.pass)))) (i := 6) F rfl rfl (by kernel_rfl) (fun _ _ _ h => h) (⟨_, H⟩) (fun wz ⟨c9, H⟩ => (zv rfl (F.e rfl) rfl (congrArg some (F.e rfl)) rfl (j1s p.pass (min p.pass.size 9) _ (by omega) (by omega)))) ?_; clear F A; intro A F
  refine td 7 ?_; clear F A; intro A F
  refine td 8 ?_; clear F A; intro A F
  refine td 9 ?_; clear F A; intro A F
  refine td 10 ?_; clear F A; intro A F
  refine jG (v := (.int .i64 ((p.willLoad.size : Int)))) (i := 11) F rfl rfl (by kernel_rfl) (fun _ _ _ h => h) (⟨_, H⟩) (fun wz ⟨c9, H⟩ => (qH rfl (j0 (F.e rfl) j9) (vk Tryz.underlying9))) ?_; clear F A; intro A F
  refine jG (v := (.int .i64 (((min p.willLoad.size 9 : Nat) : Int)))) (i := 12) F rfl rfl (by kernel_rfl) (fun _ _ _ h => h) (⟨_, H⟩) (fun wz ⟨c9, H⟩ => (j0r rfl (j0 (F.e rfl) (j0 jD j9)))) ?_; clear F A; intro A F
  refine jG (v := (.string ((j0j 9 p.willLoad)))) (i := 13) F rfl rfl (by kernel_rfl) (fun _ _ _ h => h) (⟨_, H⟩) (fun wz ⟨c9, H⟩ => (zv rfl (F.e rfl) rfl (congrArg some (F.e rfl)) rfl (j1s p.willLoad (min p.willLoad.size 9) _ (by omega) (by omega)))) ?_; clear F A; intro A F
  refine td 14 ?_; clear F A; intro A F
  refine td 15 ?_; clear F A; intro A F
  refine td 16 ?_; clear F A; intro A F
  refine td 17 ?_; clear F A; intro A F
  refine jG (v := (.int .i64 ((p.load.size : Int)))) (i := 18) F rfl rfl (by kernel_rfl) (fun _ _ _ h => h) (⟨_, H⟩) (fun wz ⟨c9, H⟩ => (qH rfl (j0 (F.e rfl) j9) (vk Tryz.underlying9))) ?_; clear F A; intro A F
  refine jG (v := (.int .i64 (((min p.load.size 40 : Nat) : Int)))) (i := 19) F rfl rfl (by kernel_rfl) (fun _ _ _ h => h) (⟨_, H⟩) (fun wz ⟨c9, H⟩ => (j0r rfl (j0 (F.e rfl) (j0 jD j9)))) ?_; clear F A; intro A F
  refine jG (v := (.string ((j0j 40 p.load)))) (i := 20) F rfl rfl (by kernel_rfl) (fun _ _ _ h => h) (⟨_, H⟩) (fun wz ⟨c9, H⟩ => (zv rfl (F.e rfl) rfl (congrArg some (F.e rfl)) rfl (j1s p.load (min p.load.size 40) _ (by omega) (by omega)))) ?_; clear F A; intro A F
  refine td 21 ?_; clear F A; intro A F
  let P21 : Pk := { P19 with pass := (j0j 9 p.pass) }
  refine tst 22 [] ((Pk.cells P21 s)) ?_; intro W H9 hk
  clear H hk; have H := H9; clear H9
  refine td 23 ?_; clear F A; intro A F
  let P22 : Pk := { P21 with willLoad := (j0j 9 p.willLoad) }
  refine tst 24 [] ((Pk.cells P22 s)) ?_; intro W H9 hk
  clear H hk; have H := H9; clear H9
  refine td 25 ?_; clear F A; intro A F
  let P23 : Pk := { P22 with load := (j0j 40 p.load) }
  refine tst 26 [] ((Pk.cells P23 s)) ?_; intro W H9 hk
  clear H hk; have H := H9; clear H9
  refine wpAnyH_done (by kernel_rfl) ?_ _
  refine hK20 _ _ ?_
  refine wp_seq_k (fun K24 hK24 => ?_)
  refine wp_region_held_drew (S := fun wx => ∃ c9, Hp _ wx [⟨b8, 27, c9⟩, _, _]) (by kernel_rfl) ⟨_, H.drew⟩ (fun H9 => ?_); clear H9; replace H := H.drew
  generalize World.drew _ = W at *
  refine td 0 ?_; clear F A; intro A F
  refine td 1 ?_; clear F A; intro A F
  refine jG (v := (.int .u8 (((p.qos % 3 : Nat) : Int)))) (i := 2) F rfl rfl (by kernel_rfl) (fun _ _ _ h => h) (⟨_, H⟩) (fun wz ⟨c9, H⟩ => (jF rfl (F.e rfl) jD (xl (i := p.qos) (j := 3) (by decide)))) ?_; clear F A; intro A F
  refine td 3 ?_; clear F A; intro A F
  refine td 4 ?_; clear F A; intro A F
  refine jG (v := (.int .u8 (((p.willQoS % 3 : Nat) : Int)))) (i := 5) F rfl rfl (by kernel_rfl) (fun _ _ _ h => h) (⟨_, H⟩) (fun wz ⟨c9, H⟩ => (jF rfl (F.e rfl) jD (xl (i := p.willQoS) (j := 3) (by decide)))) ?_; clear F A; intro A F
  refine td 6 ?_; clear F A; intro A F
  let P25 : Pk := { P23 with qos := (p.qos % 3) }
  refine tst 7 [] ((Pk.cells P25 s)) ?_; intro W H9 hk
  clear H hk; have H := H9; clear H9
  refine td 8 ?_; clear F A; intro A F
  let P26 : Pk := { P25 with willQoS := (p.willQoS % 3) }
  refine tst 9 [] ((Pk.cells P26 s)) ?_; intro W H9 hk
  clear H hk; have H := H9; clear H9
  refine wpAnyH_done (by kernel_rfl) ?_ _
  refine hK24 _ _ ?_
  refine wp_seq_k (fun K27 hK27 => jB ?_)
  iterate 3 (refine zd ?_; clear F A; intro A F)
  iterate 2 (refine zg ?_; clear F A; intro A F)
  refine zgb (j1v (i := (p.qos % 3)) (j := 0)) ?_; clear F A; intro A F
  refine j7 F rfl (jI rfl (F.e rfl) (fun hx => (F.o rfl hx)) rfl) ?_; clear F A; intro A F
  refine zd ?_; clear F A; intro A F
  let P28 : Pk := { P26 with dup := p.dup && (decide (0 < (p.qos % 3))) }
  refine zs [] ((Pk.cells P28 s)) ?_; intro W H9 hk
  clear H hk; have H := H9; clear H9
  refine wpList_nil (hK27 _ _ ?_)
  refine v8 (fun A W => ∃ i1 : Nat, Fr A 340 [(0, (.int .i64 4)), (3, (.pointer (some ⟨b2, 0, none⟩))), (4, (.pointer (some ⟨b3, 0, none⟩))), (6, (.pointer (some ⟨b8, 0, none⟩)))] ∧ Hp w W [⟨b8, 27, (Pk.cells ({ P28 with id := i1 }) s)⟩, ⟨b3, 27, jm⟩, ⟨b2, 27, (Pk.cells p s)⟩] ∧ ((i1 ≠ 0 ∧ i1 < 65536))) (fun A W hM => ?_) (fun K29 hK29 => ?_)
  rotate_left
  · skip
    refine wp_seq_k (fun K30 hK30 => jB ?_)
    iterate 2 (refine zd ?_; clear F A; intro A F)
    refine zb (jx (i := p.id) (j := 0)) ?_; clear F A; intro A F
    refine wpList_nil (hK30 _ _ ?_)
    refine zc (fun hb31 => ?_) (fun hb31 => ?_)
    · skip
      replace F := ((((F.nil.cons (F.g 6 _ rfl)).cons (F.g 4 _ rfl)).cons (F.g 3 _ rfl)).cons (F.g 0 _ rfl))
      refine jB ?_
      refine zd ?_; clear F A; intro A F
      let P32 : Pk := { P28 with id := 1 }
      refine zs [] ((Pk.cells P32 s)) ?_; intro W H9 hk
      clear H hk; have H := H9; clear H9
      refine wpList_nil ?_
      exact hK29 _ _ ⟨1, ((((F.nil.cons (F.g 6 _ rfl)).cons (F.g 4 _ rfl)).cons (F.g 3 _ rfl)).cons (F.g 0 _ rfl)), H, ⟨by decide, by decide⟩⟩
    replace F := ((((F.nil.cons (F.g 6 _ rfl)).cons (F.g 4 _ rfl)).cons (F.g 3 _ rfl)).cons (F.g 0 _ rfl))
    refine wp_skip ?_
    exact hK29 _ _ ⟨p.id, ((((F.nil.cons (F.g 6 _ rfl)).cons (F.g 4 _ rfl)).cons (F.g 3 _ rfl)).cons (F.g 0 _ rfl)), H, ⟨of_decide_eq_false hb31, hid⟩⟩
  clear F H; obtain ⟨i1, F, H, hi1⟩ := hM
  refine v8 (fun A W => ∃ i2 : Nat, Fr A 340 [(0, (.int .i64 4)), (3, (.pointer (some ⟨b2, 0, none⟩))), (4, (.pointer (some ⟨b3, 0, none⟩))), (6, (.pointer (some ⟨b8, 0, none⟩)))] ∧ Hp w W [⟨b8, 27, (Pk.cells ({ P28 with id := i2 }) s)⟩, ⟨b3, 27, jm⟩, ⟨b2, 27, (Pk.cells p s)⟩] ∧ ((((1 + (k : Int)) ≠ 3 → i2 ≠ 0) ∧ ((1 + (k : Int)) = 3 → (i2 = 0 ↔ p.qos % 3 = 0)) ∧ i2 < 65536))) (fun A W hM => ?_) (fun K33 hK33 => ?_)
  rotate_left
  · skip
    refine wp_seq_k (fun K34 hK34 => jB ?_)
    iterate 2 (refine zd ?_; clear F A; intro A F)
    refine zb (jL) ?_; clear F A; intro A F
    refine zd ?_; clear F A; intro A F
    iterate 2 (refine zg ?_; clear F A; intro A F)
    refine zgb (jx (i := (p.qos % 3)) (j := 0)) ?_; clear F A; intro A F
    refine j7 F rfl (jI rfl (F.e rfl) (fun hx => (F.o rfl hx)) rfl) ?_; clear F A; intro A F
    refine wpList_nil (hK34 _ _ ?_)
    refine zc (fun hb35 => ?_) (fun hb35 => ?_)
    · skip
      refine jB ?_
      refine zd ?_; clear F A; intro A F
      let P36 : Pk := { P28 with id := 0 }
      refine zs [] ((Pk.cells P36 s)) ?_; intro W H9 hk
      clear H hk; have H := H9; clear H9
      refine wpList_nil ?_
      exact hK33 _ _ ⟨0, ((((F.nil.cons (F.g 6 _ rfl)).cons (F.g 4 _ rfl)).cons (F.g 3 _ rfl)).cons (F.g 0 _ rfl)), H, ⟨fun h9 => absurd (of_decide_eq_true (ga1 hb35)) h9, fun _ => ⟨fun _ => of_decide_eq_true (ga2 hb35), fun _ => rfl⟩, by decide⟩⟩
    refine wp_skip ?_
    exact hK33 _ _ ⟨i1, ((((F.nil.cons (F.g 6 _ rfl)).cons (F.g 4 _ rfl)).cons (F.g 3 _ rfl)).cons (F.g 0 _ rfl)), H, ⟨fun _ => hi1.1, fun h3 => ⟨fun h => absurd h hi1.1, fun h => absurd hb35 (by rw [decide_eq_true h3, decide_eq_true h]; decide)⟩, hi1.2⟩⟩
  clear F H; obtain ⟨i2, F, H, hi2⟩ := hM
  refine wp_seq_k (fun K37 hK37 => jB ?_)
  iterate 3 (refine zd ?_; clear F A; intro A F)
  refine zg ?_; clear F A; intro A F
  refine zgb (jL) ?_; clear F A; intro A F
  iterate 3 (refine zg ?_; clear F A; intro A F)
  refine qQ F rfl (qI F rfl rfl rfl) (fun hG => (j5j rfl (F.o rfl hG) (F.o rfl (gai hG rfl)))) ?_; clear F A; intro A F
  refine j7 F rfl (jI rfl (F.e rfl) (fun hx => (F.o rfl hx)) rfl) ?_; clear F A; intro A F
  refine zd ?_; clear F A; intro A F
  let P38 : Pk := { P28 with id := i2, hasPass := p.hasPass && p.hasUser }
  refine zs [] ((Pk.cells P38 s)) ?_; intro W H9 hk
  clear H hk; have H := H9; clear H9
  refine wpList_nil (hK37 _ _ ?_)
  refine wp_seq_k (fun K39 hK39 => jB ?_)
  iterate 3 (refine zd ?_; clear F A; intro A F)
  refine zg ?_; clear F A; intro A F
  refine zgb (jL) ?_; clear F A; intro A F
  iterate 3 (refine zg ?_; clear F A; intro A F)
  refine zgb (vJ) ?_; clear F A; intro A F
  refine qQ F rfl (zS F rfl rfl rfl) (fun hG => (j5k rfl (F.o rfl hG) (F.o rfl (gai hG rfl)))) ?_; clear F A; intro A F
  refine j7 F rfl (qL rfl (F.e rfl) (fun hx => (F.o rfl (gnt hx))) rfl) ?_; clear F A; intro A F
  refine zd ?_; clear F A; intro A F
  let P40 : Pk := { P38 with clean := p.clean || (decide ((vX p.client) = ⟨#[]⟩)) }
  refine zs [] ((Pk.cells P40 s)) ?_; intro W H9 hk
  clear H hk; have H := H9; clear H9
  refine wpList_nil (hK39 _ _ ?_)
  refine wp_seq_k (fun K41 hK41 => jB ?_)
  iterate 5 (refine zd ?_; clear F A; intro A F)
  refine jf F H rfl (j6 rfl rfl (j0 (F.e rfl) (j0 (F.e rfl) (j0 (F.e rfl) j9))) j3x) (xT 4 (1 + (k : Int)) p.code _ (by omega)) ?_; clear F H A; intro W A hk H F
  clear hk
  refine zd ?_; clear F A; intro A F
  let P43 : Pk := { P40 with code := rfx 4 (1 + (k : Int)) p.code }
  refine zs [] ((Pk.cells P43 s)) ?_; intro W H9 hk
  clear H hk; have H := H9; clear H9
  refine wpList_nil (hK41 _ _ ?_)
  refine wp_seq_k (fun K44 hK44 => jB ?_)
  iterate 3 (refine zd ?_; clear F A; intro A F)
  iterate 2 (refine zg ?_; clear F A; intro A F)
  refine zgb (jx (i := rfx 4 (1 + (k : Int)) p.code) (j := 0)) ?_; clear F A; intro A F
  refine j7 F rfl (jI rfl (F.e rfl) (fun hx => (F.o rfl hx)) rfl) ?_; clear F A; intro A F
  refine zd ?_; clear F A; intro A F
  let P45 : Pk := { P43 with present := p.present && (decide (rfx 4 (1 + (k : Int)) p.code = 0)) }
  refine zs [] ((Pk.cells P45 s)) ?_; intro W H9 hk
  clear H hk; have H := H9; clear H9
  refine wpList_nil (hK44 _ _ ?_)
  refine wp_seq_k (fun K46 hK46 => jB ?_)
  refine zd ?_; clear F A; intro A F
  let s47 : Sl := { s with pa := none, pc := 0 }
  let P48 : Pk := { P45 with props := [] }
  refine zs [] ((Pk.cells P48 s47)) ?_; intro W H9 hk
  clear H hk; have H := H9; clear H9
  refine zd ?_; clear F A; intro A F
  let s49 : Sl := { s47 with wa := none, wc := 0 }
  let P50 : Pk := { P48 with willProps := [] }
  refine zs [] ((Pk.cells P50 s49)) ?_; intro W H9 hk
  clear H hk; have H := H9; clear H9
  refine wpList_nil (hK46 _ _ ?_)
  refine wp_seq_k (fun K51 hK51 => ?_)
  refine wp_seq_k (fun K52 hK52 => jB ?_)
  refine zd ?_; clear F A; intro A F
  refine zb (jL) ?_; clear F A; intro A F
  refine wpList_nil (hK52 _ _ ?_)
  refine wp_cond_false (F.e rfl) ?_
  replace F := ((((F.nil.cons (F.g 6 _ rfl)).cons (F.g 4 _ rfl)).cons (F.g 3 _ rfl)).cons (F.g 0 _ rfl))
  refine wp_skip (hK51 _ _ ?_)
  refine wp_seq_k (fun K53 hK53 => jB ?_)
  refine zd ?_; clear F A; intro A F
  let s54 : Sl := { s49 with fa := none, fc := 0 }
  let P55 : Pk := { P50 with filters := [] }
  refine zs [] ((Pk.cells P55 s54)) ?_; intro W H9 hk
  clear H hk; have H := H9; clear H9
  refine zd ?_; clear F A; intro A F
  let s56 : Sl := { s54 with ca := none, cc := 0 }
  let P57 : Pk := { P55 with codes := [] }
  refine zs [] ((Pk.cells P57 s56)) ?_; intro W H9 hk
  clear H hk; have H := H9; clear H9
  refine wpList_nil (hK53 _ _ ?_)
  refine wp_seq_k (fun K58 hK58 => ?_)
  refine wp_seq_k (fun K59 hK59 => jB ?_)
  refine zd ?_; clear F A; intro A F
  refine wpList_nil (hK59 _ _ ?_)
  refine wp_block ?_
  refine xf (fun (j : Nat) A W => ∃ fl : List Fi, ∃ fa : Option Addr, ∃ fc : Nat, Fr A 340 [(0, (.int .i64 4)), (3, (.pointer (some ⟨b2, 0, none⟩))), (4, (.pointer (some ⟨b3, 0, none⟩))), (6, (.pointer (some ⟨b8, 0, none⟩))), (11, (.int .i64 ((j : Int))))] ∧ Hp w W [⟨b8, 27, (Pk.cells ({ P57 with filters := fl }) ({ s56 with fa := fa, fc := fc }))⟩, ⟨b3, 27, jm⟩, ⟨b2, 27, (Pk.cells p s)⟩] ∧ W.ownsRow w.heap.size 51 2 (.slice fa fl.length fc) fl.length (FC fl) ∧ (j ≤ 5 ∧ fl.length = j) ∧ ((∀ f ∈ fl, j4f 4 (1 + (k : Int)) f = true ∧ f.opt < 256 ∧ f.text.size ≤ 40))) (fun j => 5 - j) 0 ⟨[], none, 0, (((((F.nil.cons (vK (F.g 11 _ rfl) (by rfl))).cons (F.g 6 _ rfl)).cons (F.g 4 _ rfl)).cons (F.g 3 _ rfl)).cons (F.g 0 _ rfl)), H, j0w _, ⟨by omega, rfl⟩, by simp⟩ (fun j A W hI J60 hJ60 => ?_)
  clear F H; obtain ⟨fl, fa, fc, F, H, hO, hj, hfl⟩ := hI
  obtain ⟨hj5, hjl⟩ := hj
  refine wp_seq_k (fun K61 hK61 => ?_)
  refine wp_seq_k (fun K62 hK62 => jB ?_)
  iterate 3 (refine zd ?_; clear F A; intro A F)
  refine j7 F rfl (qH rfl (j0 (F.e rfl) j9) (qK Tryz.underlying24)) ?_; clear F A; intro A F
  refine zb (vB (i := j) (j := p.filters.length)) ?_; clear F A; intro A F
  refine zd ?_; clear F A; intro A F
  refine zg ?_; clear F A; intro A F
  refine zgb (vB (i := j) (j := 5)) ?_; clear F A; intro A F
  refine j7 F rfl (jI rfl (F.e rfl) (fun hx => (F.o rfl hx)) rfl) ?_; clear F A; intro A F
  refine wpList_nil (hK62 _ _ ?_)
  refine zc (fun hb63 => ?_) (fun hb63 => ?_)
  · skip
    refine wp_skip (hK61 _ _ ?_)
    refine wp_seq_k (fun K64 hK64 => ?_)
    refine wp_block ?_
    have hlt : j < p.filters.length := of_decide_eq_true (ga1 hb63)
    have hl5 : j < 5 := of_decide_eq_true (ga2 hb63)
    obtain ⟨b9, off9, ha9, hbb9, _, _⟩ := (hp.kept H.k).hf.filt hlt
    obtain ⟨f9, hF9⟩ : ∃ f9, f9 = p.filters[j] := ⟨_, rfl⟩
    have hFo : f9.opt < 256 := hF9 ▸ hY.opt _ (List.getElem_mem hlt)
    have hFt : f9.text.size ≤ 140737488351232 := hF9 ▸ hR.tf _ (List.getElem_mem hlt)
    refine v8 (fun A W => ∃ bf : Nat, Fr A 340 [(0, (.int .i64 4)), (3, (.pointer (some ⟨b2, 0, none⟩))), (4, (.pointer (some ⟨b3, 0, none⟩))), (6, (.pointer (some ⟨b8, 0, none⟩))), (11, (.int .i64 ((j : Int)))), (12, (.pointer (some ⟨bf, 0, none⟩))), (185, (.int .i64 ((j : Int)))), (186, (.pointer (some ⟨b2, 22, none⟩))), (187, (.slice s.fa p.filters.length s.fc)), (188, (.int .i64 ((p.filters.length : Int)))), (189, (.bool (decide (j < p.filters.length)))), (190, (.bool (decide (j < p.filters.length)))), (191, (og ((decide (j < p.filters.length))) (.int .i64 ((j : Int))))), (192, (og ((decide (j < p.filters.length))) (.bool (decide (j < 5))))), (193, (.bool ((decide (j < p.filters.length)) && (decide (j < 5)))))] ∧ Hp w W [⟨bf, 51, #[.string (ffS f9.text), .int .u8 ((f9.opt % 3 : Nat) : Int)]⟩, ⟨b8, 27, (Pk.cells ({ P57 with filters := fl }) ({ s56 with fa := fa, fc := fc }))⟩, ⟨b3, 27, jm⟩, ⟨b2, 27, (Pk.cells p s)⟩] ∧ W.ownsRow w.heap.size 51 2 (.slice fa fl.length fc) fl.length (FC fl) ∧ (∀ g9, Value.ownBlock (.slice fa fl.length fc) = some g9 → g9 < bf)) (fun A W hM => ?_) (fun K65 hK65 => ?_)
    rotate_left
    · skip
      refine wp_region_held_drew (S := fun wx => Hp _ wx _) (by kernel_rfl) H.drew (fun H9 => ?_); clear H; have H := H9; clear H9
      replace hO := j8 hO (Kept.refl No _).drew
      generalize World.drew _ = W at *
      refine td 0 ?_; clear F A; intro A F
      refine td 1 ?_; clear F A; intro A F
      refine td 2 ?_; clear F A; intro A F
      refine jG (i := 3) F rfl rfl (by kernel_rfl) (fun _ _ _ h => h) (H) (fun wz H => (qJ rfl ((F.e rfl).trans (show _ = Value.slice (some ⟨b9, off9, none⟩) p.filters.length s.fc from by first | (rw [← ha9]; done) | (rw [← ha9]; rfl))) (F.e rfl) (vc Tryz.underlying24 (xe _) hlt))) ?_; clear F A; intro A F
      refine td 4 ?_; clear F A; intro A F
      refine jG (v := (.string f9.text)) (i := 5) F rfl rfl (by kernel_rfl) (fun _ _ _ h => h) (H) (fun wz H => (jA rfl (F.e rfl) (jk (jHw _) (by rw [hF9]; exact ((hp.kept H.k).hf.filt_t ha9 hlt))))) ?_; clear F A; intro A F
      refine td 7 ?_; clear F A; intro A F
      refine td 8 ?_; clear F A; intro A F
      refine td 9 ?_; clear F A; intro A F
      refine jG (i := 10) F rfl rfl (by kernel_rfl) (fun _ _ _ h => h) (H) (fun wz H => (qJ rfl ((F.e rfl).trans (show _ = Value.slice (some ⟨b9, off9, none⟩) p.filters.length s.fc from by first | (rw [← ha9]; done) | (rw [← ha9]; rfl))) (F.e rfl) (vc Tryz.underlying24 (xe _) hlt))) ?_; clear F A; intro A F
      refine td 11 ?_; clear F A; intro A F
      refine jG (v := (.int .u8 ((f9.opt : Int)))) (i := 12) F rfl rfl (by kernel_rfl) (fun _ _ _ h => h) (H) (fun wz H => (jA rfl (F.e rfl) (jk (j4a _) (by rw [hF9]; exact ((hp.kept H.k).hf.filt_o ha9 hlt))))) ?_; clear F A; intro A F
      refine jG (i := 13) F rfl rfl (by kernel_rfl) (fun _ _ _ h => h) (H) (fun wz H => (jF rfl (F.e rfl) jD (xl (i := f9.opt) (j := 3) (by decide)))) ?_; clear F A; intro A F
      refine vu (i := 6) (j := 15) (by kernel_rfl) ?_ ?_
      · skip
        refine jZ (i := 6) F rfl rfl (j6 rfl rfl (j0 (F.e rfl) j9) jCq) (j2j f9.text _ (by omega)) (fun _ hk => (H.kept hk)) ?_; clear F A; intro W A hk _ F; replace H := H.kept hk
        replace hO := j8 hO hk
        clear hk
        refine jG (v := (.agg #[(.string ((ffS f9.text))), (.int .u8 (((f9.opt % 3 : Nat) : Int)))])) (i := 14) F rfl rfl (by kernel_rfl) (fun _ _ _ h => h) (H) (fun wz H => (jh rfl (j4 (F.e rfl) (j4 (F.e rfl) qB)) (by kernel_rfl))) ?_; clear F A; intro A F
        refine jO (i := 15) (by kernel_rfl) (qi (i := 15) (c := #[(.string ⟨#[]⟩), (.int .u8 0)]) (t := 51) (fun b9 => .pointer (some ⟨b9, 0, none⟩)) F H rfl rfl (jq rfl (jCg _)) (fun _ _ H => H.tl) ?_); clear F A; intro b67 W A hk hN H9 F; clear H; have H := H9; clear H9
        have hne_hO_b67 := vT hO hN
        replace hO := j8 hO hk
        clear hk hN
        obtain ⟨W9, hr, hB, hk⟩ := jC (P := Tryz.prog) (S := 51) (c := #[(.string ((ffS f9.text))), (.int .u8 (((f9.opt % 3 : Nat) : Int)))]) _ (H.b.at_ (j := 0) rfl).1 (xe _) rfl (by simp [Value.oneCell'])
        replace hO := j01 hO hne_hO_b67 hk
        replace H : Hp _ _ [_, _, _, _] := Hp.turn [] H hk hB; clear hk hB
        refine jO (i := 16) (by kernel_rfl) (zF (i := 16) rfl (jJ rfl (F.e rfl) (F.e rfl) hr) (H.tl) ?_); clear hr
        refine wpAnyH_done (by kernel_rfl) ?_ _
        exact hK65 _ _ ⟨b67, (((((((((((((((F.nil.cons (F.g 193 _ rfl)).cons (F.g 192 _ rfl)).cons (F.g 191 _ rfl)).cons (F.g 190 _ rfl)).cons (F.g 189 _ rfl)).cons (F.g 188 _ rfl)).cons (F.g 187 _ rfl)).cons (F.g 186 _ rfl)).cons (F.g 185 _ rfl)).cons (F.g 12 _ rfl)).cons (F.g 11 _ rfl)).cons (F.g 6 _ rfl)).cons (F.g 4 _ rfl)).cons (F.g 3 _ rfl)).cons (F.g 0 _ rfl)), H, hO, hne_hO_b67⟩
      · skip
        refine qi (i := 15) (c := #[(.string ⟨#[]⟩), (.int .u8 0)]) (t := 51) (fun b9 => .pointer (some ⟨b9, 0, none⟩)) F H rfl rfl (jq rfl (jCg _)) (fun _ _ H => H.tl) ?_; clear F A; intro b68 W A hk hN H9 F; clear H; have H := H9; clear H9
        have hne_hO_b68 := vT hO hN
        replace hO := j8 hO hk
        clear hk hN
        refine jO (i := 6) (by kernel_rfl) (jZ (i := 6) F rfl rfl (j6 rfl rfl (j0 (F.e rfl) j9) jCq) (j2j f9.text _ (by omega)) (fun _ hk => (H.kept hk).tl) ?_); clear F A; intro W A hk _ F; replace H := H.kept hk
        replace hO := j8 hO hk
        clear hk
        refine jG (v := (.agg #[(.string ((ffS f9.text))), (.int .u8 (((f9.opt % 3 : Nat) : Int)))])) (i := 14) F rfl rfl (by kernel_rfl) (fun _ _ _ h => h) (H.tl) (fun wz H => (jh rfl (j4 (F.e rfl) (j4 (F.e rfl) qB)) (by kernel_rfl))) ?_; clear F A; intro A F
        obtain ⟨W9, hr, hB, hk⟩ := jC (P := Tryz.prog) (S := 51) (c := #[(.string ((ffS f9.text))), (.int .u8 (((f9.opt % 3 : Nat) : Int)))]) _ (H.b.at_ (j := 0) rfl).1 (xe _) rfl (by simp [Value.oneCell'])
        replace hO := j01 hO hne_hO_b68 hk
        replace H : Hp _ _ [_, _, _, _] := Hp.turn [] H hk hB; clear hk hB
        refine jO (i := 16) (by kernel_rfl) (zF (i := 16) rfl (jJ rfl (F.e rfl) (F.e rfl) hr) (H.tl) ?_); clear hr
        refine wpAnyH_done (by kernel_rfl) ?_ _
        exact hK65 _ _ ⟨b68, (((((((((((((((F.nil.cons (F.g 193 _ rfl)).cons (F.g 192 _ rfl)).cons (F.g 191 _ rfl)).cons (F.g 190 _ rfl)).cons (F.g 189 _ rfl)).cons (F.g 188 _ rfl)).cons (F.g 187 _ rfl)).cons (F.g 186 _ rfl)).cons (F.g 185 _ rfl)).cons (F.g 12 _ rfl)).cons (F.g 11 _ rfl)).cons (F.g 6 _ rfl)).cons (F.g 4 _ rfl)).cons (F.g 3 _ rfl)).cons (F.g 0 _ rfl)), H, hO, hne_hO_b68⟩
    clear F H hO; obtain ⟨bf, F, H, hO, hne_hO_bf⟩ := hM
    refine v8 (fun A W => ∃ o1 : Nat, Fr A 340 [(0, (.int .i64 4)), (3, (.pointer (some ⟨b2, 0, none⟩))), (4, (.pointer (some ⟨b3, 0, none⟩))), (6, (.pointer (some ⟨b8, 0, none⟩))), (11, (.int .i64 ((j : Int)))), (12, (.pointer (some ⟨bf, 0, none⟩))), (185, (.int .i64 ((j : Int)))), (186, (.pointer (some ⟨b2, 22, none⟩))), (187, (.slice s.fa p.filters.length s.fc)), (188, (.int .i64 ((p.filters.length : Int)))), (189, (.bool (decide (j < p.filters.length)))), (190, (.bool (decide (j < p.filters.length)))), (191, (og ((decide (j < p.filters.length))) (.int .i64 ((j : Int))))), (192, (og ((decide (j < p.filters.length))) (.bool (decide (j < 5))))), (193, (.bool ((decide (j < p.filters.length)) && (decide (j < 5)))))] ∧ Hp w W [⟨bf, 51, #[(.string ((ffS f9.text))), (.int .u8 ((o1 : Int)))]⟩, ⟨b8, 27, (Pk.cells ({ P57 with filters := fl }) ({ s56 with fa := fa, fc := fc }))⟩, ⟨b3, 27, jm⟩, ⟨b2, 27, (Pk.cells p s)⟩] ∧ W.ownsRow w.heap.size 51 2 (.slice fa fl.length fc) fl.length (FC fl) ∧ ((o1 ≤ 2 ∧ ((1 + (k : Int)) = 10 → o1 = 0)))) (fun A W hM => ?_) (fun K70 hK70 => ?_)
    rotate_left
    · skip
      refine wp_seq_k (fun K71 hK71 => jB ?_)
      iterate 2 (refine zd ?_; clear F A; intro A F)
      refine zb (jL) ?_; clear F A; intro A F
      refine wpList_nil (hK71 _ _ ?_)
      refine zc (fun hb72 => ?_) (fun hb72 => ?_)
      · skip
        refine jB ?_
        refine zd ?_; clear F A; intro A F
        refine zs [] (#[(.string ((ffS f9.text))), (.int .u8 0)]) ?_; intro W H9 hk
        replace hO := j01 hO hne_hO_bf hk
        clear H hk; have H := H9; clear H9
        refine wpList_nil ?_
        exact hK70 _ _ ⟨0, (((((((((((((((F.nil.cons (F.g 193 _ rfl)).cons (F.g 192 _ rfl)).cons (F.g 191 _ rfl)).cons (F.g 190 _ rfl)).cons (F.g 189 _ rfl)).cons (F.g 188 _ rfl)).cons (F.g 187 _ rfl)).cons (F.g 186 _ rfl)).cons (F.g 185 _ rfl)).cons (F.g 12 _ rfl)).cons (F.g 11 _ rfl)).cons (F.g 6 _ rfl)).cons (F.g 4 _ rfl)).cons (F.g 3 _ rfl)).cons (F.g 0 _ rfl)), H, hO, ⟨by decide, fun _ => rfl⟩⟩
      refine wp_skip ?_
      exact hK70 _ _ ⟨(f9.opt % 3), (((((((((((((((F.nil.cons (F.g 193 _ rfl)).cons (F.g 192 _ rfl)).cons (F.g 191 _ rfl)).cons (F.g 190 _ rfl)).cons (F.g 189 _ rfl)).cons (F.g 188 _ rfl)).cons (F.g 187 _ rfl)).cons (F.g 186 _ rfl)).cons (F.g 185 _ rfl)).cons (F.g 12 _ rfl)).cons (F.g 11 _ rfl)).cons (F.g 6 _ rfl)).cons (F.g 4 _ rfl)).cons (F.g 3 _ rfl)).cons (F.g 0 _ rfl)), H, hO, ⟨by omega, fun h3 => absurd h3 (of_decide_eq_false hb72)⟩⟩
    clear F H hO; obtain ⟨o1, F, H, hO, ho1⟩ := hM
    refine v8 (fun A W => ∃ o2 : Nat, Fr A 340 [(0, (.int .i64 4)), (3, (.pointer (some ⟨b2, 0, none⟩))), (4, (.pointer (some ⟨b3, 0, none⟩))), (6, (.pointer (some ⟨b8, 0, none⟩))), (11, (.int .i64 ((j : Int)))), (12, (.pointer (some ⟨bf, 0, none⟩))), (185, (.int .i64 ((j : Int)))), (186, (.pointer (some ⟨b2, 22, none⟩))), (187, (.slice s.fa p.filters.length s.fc)), (188, (.int .i64 ((p.filters.length : Int)))), (189, (.bool (decide (j < p.filters.length)))), (190, (.bool (decide (j < p.filters.length)))), (191, (og ((decide (j < p.filters.length))) (.int .i64 ((j : Int))))), (192, (og ((decide (j < p.filters.length))) (.bool (decide (j < 5))))), (193, (.bool ((decide (j < p.filters.length)) && (decide (j < 5)))))] ∧ Hp w W [⟨bf, 51, #[(.string ((ffS f9.text))), (.int .u8 ((o2 : Int)))]⟩, ⟨b8, 27, (Pk.cells ({ P57 with filters := fl }) ({ s56 with fa := fa, fc := fc }))⟩, ⟨b3, 27, jm⟩, ⟨b2, 27, (Pk.cells p s)⟩] ∧ W.ownsRow w.heap.size 51 2 (.slice fa fl.length fc) fl.length (FC fl) ∧ ((o2 < 48 ∧ o2 % 4 ≤ 2 ∧ ((1 + (k : Int)) = 10 → o2 = 0) ∧ ((4 : Int) = 4 → o2 ≤ 2) ∧ (qu (ffS f9.text) = true → o2 / 4 % 2 = 0)))) (fun A W hM => ?_) (fun K73 hK73 => ?_)
    rotate_left
    · skip
      refine wp_seq_k (fun K74 hK74 => jB ?_)
      iterate 2 (refine zd ?_; clear F A; intro A F)
      refine va (R := fun vv ww => ∃ s1 s2, vv = .tuple #[.string s1, .string s2, .bool (qu ((ffS f9.text)))]) F H rfl (j6 rfl rfl (j0 (F.e rfl) j9) jKm) ((j46 ((ffS f9.text)) _ (by have := (za f9.text).2; omega)).mono fun e9 ww h9 => by obtain ⟨s1, s2, hs⟩ := j2b ((ffS f9.text)); exact ⟨_, h9.1, ⟨s1, s2, hs⟩, h9.2⟩) ?_; clear F H A; intro vv W A hR hk H F; obtain ⟨s1, s2, rfl⟩ := hR
      replace hO := j8 hO hk
      clear hk
      iterate 7 (refine zd ?_; clear F A; intro A F)
      refine wpList_nil (hK74 _ _ ?_)
      refine wp_seq_k (fun K76 hK76 => jB ?_)
      iterate 2 (refine zd ?_; clear F A; intro A F)
      refine zb (jL) ?_; clear F A; intro A F
      refine zd ?_; clear F A; intro A F
      refine zg ?_; clear F A; intro A F
      refine zgb (jL) ?_; clear F A; intro A F
      refine j7 F rfl (jI rfl (F.e rfl) (fun hx => (F.o rfl hx)) rfl) ?_; clear F A; intro A F
      refine zd ?_; clear F A; intro A F
      iterate 2 (refine zg ?_; clear F A; intro A F)
      refine j7 F rfl (jI rfl (F.e rfl) (fun hx => (F.o rfl hx)) rfl) ?_; clear F A; intro A F
      refine wpList_nil (hK76 _ _ ?_)
      refine zc (fun hb77 => ?_) (fun hb77 => ?_)
      · skip
        cases (ga2 (ga1 hb77))
      refine wp_skip ?_
      exact hK73 _ _ ⟨o1, (((((((((((((((F.nil.cons (F.g 193 _ rfl)).cons (F.g 192 _ rfl)).cons (F.g 191 _ rfl)).cons (F.g 190 _ rfl)).cons (F.g 189 _ rfl)).cons (F.g 188 _ rfl)).cons (F.g 187 _ rfl)).cons (F.g 186 _ rfl)).cons (F.g 185 _ rfl)).cons (F.g 12 _ rfl)).cons (F.g 11 _ rfl)).cons (F.g 6 _ rfl)).cons (F.g 4 _ rfl)).cons (F.g 3 _ rfl)).cons (F.g 0 _ rfl)), H, hO, ⟨by omega, by omega, ho1.2, fun _ => ho1.1, fun _ => by omega⟩⟩
    clear F H hO; obtain ⟨o2, F, H, hO, ho2⟩ := hM
    refine jB ?_
    iterate 2 (refine zd ?_; clear F A; intro A F)
    refine j7 F rfl (jA rfl (F.e rfl) (jE (#[(.string ((ffS f9.text))), (.int .u8 ((o2 : Int)))]) rfl (jCu _) (xe _) (fun i => H.cs 0 rfl i))) ?_; clear F A; intro A F
    refine j40 (c := #[.string (ffS f9.text), .int .u8 (o2 : Int)]) (t := 51) (m := 1) F H rfl (jW rfl (j4 (F.e rfl) qB) (by kernel_rfl)) ?_; clear F A; intro b78 W A hk hN H9 F; clear H; have H := H9; clear H9
    have hne_hO_b78 := vT hO hN
    replace hO := j8 hO hk
    clear hk hN
    obtain ⟨i0, hi, hz0, hz1, hz2⟩ := info_parts j5o
    obtain ⟨v9, W9, hrun, hO9, hg, _⟩ := run_append_own (P := Tryz.prog) _ w.heap.size 24 24 51 i0 _ 2 24 Tryz.underlying24 hi hz0 hz1 hz2 rfl (by decide) _ _ _ hO ⟨b78, 0, none⟩ 1 1 [.string (ffS f9.text), .int .u8 (o2 : Int)] rfl (vN (H.b.at_ (j := 0) rfl).1) (vo rfl) (by unfold maxLen; omega) (by omega) H.size
    rw [show ([.string (ffS f9.text), .int .u8 (o2 : Int)] : List Value) = FC [(⟨ffS f9.text, o2⟩ : Fi)] from rfl, ← j1o, show fl.length + 1 = (fl ++ [(⟨ffS f9.text, o2⟩ : Fi)]).length from by simp] at hO9
    have hkS := jo hg; obtain ⟨a79, c79, hv9⟩ := qC hO9; subst hv9
    refine j7 F rfl (ji rfl (j0 (F.e rfl) (j0 (F.e rfl) j9)) (fun cs => by simp only [builtin]; exact qM hrun)) ?_; clear F A; intro A F
    replace H := Hp.grown H hO hkS (fa1 (zM hne_hO_b78) (fa1 (zM hne_hO_bf) (fa1 (jS hO (H.b.at_ (j := 2) rfl).1 (show 27 ≠ 51 by decide)) (fa1 (jS hO (H.b.at_ (j := 3) rfl).1 (show 27 ≠ 51 by decide)) (fa1 (jS hO (H.b.at_ (j := 4) rfl).1 (show 27 ≠ 51 by decide)) fa0)))))
    clear hrun hg hkS; clear hO; have hO := hO9; clear hO9; generalize W9 = W at *
    refine zd ?_; clear F A; intro A F
    let s80 : Sl := { s56 with fa := a79, fc := c79 }
    let P81 : Pk := { P57 with filters := (fl ++ [(⟨ffS f9.text, o2⟩ : Fi)]) }
    refine zs [_, _] ((Pk.cells P81 s80)) ?_; intro W H9 hk
    replace hO := jM hO (H.b.at_ (j := 2) rfl).1 (show 27 ≠ 51 by decide) hk
    clear H hk; have H := H9; clear H9
    refine wpList_nil (hK64 _ _ ?_)
    refine jB ?_
    refine zd ?_; clear F A; intro A F
    refine j7 F rfl (jF rfl (F.e rfl) jD (jd (jK (by omega) (by omega)))) ?_; clear F A; intro A F
    refine zd ?_; clear F A; intro A F
    refine wpList_nil ?_
    exact hJ60 ((j + 1)) _ _ (by omega) ⟨(fl ++ [(⟨ffS f9.text, o2⟩ : Fi)]), a79, c79, (((((F.nil.cons (vK (F.g 11 _ rfl) (by simp))).cons (F.g 6 _ rfl)).cons (F.g 4 _ rfl)).cons (F.g 3 _ rfl)).cons (F.g 0 _ rfl)), H.tl.tl, hO, ⟨by omega, by simp; omega⟩, (by intro f hf; rcases List.mem_append.1 hf with hf | hf; exact hfl f hf; rw [List.mem_singleton.1 hf]; exact ⟨j4t (za f9.text).1 ho2.1 (by omega) ho2.2.2.1 ho2.2.2.2.1 ho2.2.2.2.2, by show o2 < 256; omega, (za f9.text).2⟩)⟩
  refine wp_exit ?_
  refine hK58 _ _ ?_
  refine v8 (fun A W => ∃ fm : List Fi, ∃ ga : Option Addr, ∃ gc : Nat, Fr A 340 [(0, (.int .i64 4)), (3, (.pointer (some ⟨b2, 0, none⟩))), (4, (.pointer (some ⟨b3, 0, none⟩))), (6, (.pointer (some ⟨b8, 0, none⟩)))] ∧ Hp w W [⟨b8, 27, (Pk.cells ({ P57 with filters := fm }) ({ s56 with fa := ga, fc := gc }))⟩, ⟨b3, 27, jm⟩, ⟨b2, 27, (Pk.cells p s)⟩] ∧ W.ownsRow w.heap.size 51 2 (.slice ga fm.length gc) fm.length (FC fm) ∧ (1 ≤ fm.length ∧ fm.length ≤ 5) ∧ ((∀ f ∈ fm, j4f 4 (1 + (k : Int)) f = true ∧ f.opt < 256 ∧ f.text.size ≤ 40))) (fun A W hM => ?_) (fun K82 hK82 => ?_)
  rotate_left
  · skip
    refine wp_seq_k (fun K83 hK83 => jB ?_)
    iterate 2 (refine zd ?_; clear F A; intro A F)
    refine j7 F rfl (qH rfl (j0 (F.e rfl) j9) (qK Tryz.underlying24)) ?_; clear F A; intro A F
    refine zb (jx (i := fl.length) (j := 0)) ?_; clear F A; intro A F
    refine wpList_nil (hK83 _ _ ?_)
    refine zc (fun hb84 => ?_) (fun hb84 => ?_)
    · skip
      refine jB ?_
      refine j7 (v := (.agg #[(.string (⟨#[97, 47, 43]⟩)), (.int .u8 0)])) F rfl (jh rfl (j4 jD qB) (by kernel_rfl)) ?_; clear F A; intro A F
      refine j40 (c := #[.string ⟨#[97, 47, 43]⟩, .int .u8 0]) (t := 51) (m := 1) F H rfl (jW rfl (j4 (F.e rfl) qB) (by kernel_rfl)) ?_; clear F A; intro b85 W A hk hN H9 F; clear H; have H := H9; clear H9
      have hne_hO_b85 := vT hO hN
      replace hO := j8 hO hk
      clear hk hN
      refine zd ?_; clear F A; intro A F
      let s86 : Sl := { s56 with fa := (some ⟨b85, 0, none⟩), fc := 1 }
      let P87 : Pk := { P57 with filters := [⟨⟨#[97, 47, 43]⟩, 0⟩] }
      refine zs [_] ((Pk.cells P87 s86)) ?_; intro W H9 hk
      replace hO := jM hO (H.b.at_ (j := 1) rfl).1 (show 27 ≠ 51 by decide) hk
      clear H hk; have H := H9; clear H9
      refine wpList_nil ?_
      exact hK82 _ _ ⟨[⟨⟨#[97, 47, 43]⟩, 0⟩], (some ⟨b85, 0, none⟩), 1, ((((F.nil.cons (F.g 6 _ rfl)).cons (F.g 4 _ rfl)).cons (F.g 3 _ rfl)).cons (F.g 0 _ rfl)), H.tl, (j32 (k := 2) H rfl (by decide)), ⟨by decide, by decide⟩, (by intro f hf; rw [List.mem_singleton.1 hf]; exact ⟨j4t (by decide +kernel) (by decide) (by decide) (fun _ => rfl) (fun _ => by decide) (fun _ => rfl), by decide, by decide⟩)⟩
    refine wp_skip ?_
    exact hK82 _ _ ⟨fl, fa, fc, ((((F.nil.cons (F.g 6 _ rfl)).cons (F.g 4 _ rfl)).cons (F.g 3 _ rfl)).cons (F.g 0 _ rfl)), H, hO, ⟨by have := of_decide_eq_false hb84; omega, by omega⟩, hfl⟩
  clear F H hO; obtain ⟨fm, ga, gc, F, H, hO, hfm, hfo⟩ := hM
  refine wp_seq_k (fun K88 hK88 => ?_)
  refine wp_seq_k (fun K89 hK89 => jB ?_)
  refine zd ?_; clear F A; intro A F
  refine wpList_nil (hK89 _ _ ?_)
  refine wp_block ?_
  refine xf (fun (i : Nat) A W => ∃ cl : List UInt8, ∃ ca : Option Addr, ∃ cc : Nat, Fr A 340 [(0, (.int .i64 4)), (3, (.pointer (some ⟨b2, 0, none⟩))), (4, (.pointer (some ⟨b3, 0, none⟩))), (6, (.pointer (some ⟨b8, 0, none⟩))), (16, (.int .i64 ((i : Int))))] ∧ Hp w W [⟨b8, 27, (Pk.cells ({ P57 with filters := fm, codes := cl }) ({ s56 with fa := ga, fc := gc, ca := ca, cc := cc }))⟩, ⟨b3, 27, jm⟩, ⟨b2, 27, (Pk.cells p s)⟩] ∧ W.ownsRow w.heap.size 51 2 (.slice ga fm.length gc) fm.length (FC fm) ∧ W.ownsRow w.heap.size 5 1 (.slice ca cl.length cc) cl.length (B8 cl) ∧ (i ≤ 5 ∧ cl.length = i) ∧ ((∀ c ∈ cl, ke 4 (1 + (k : Int)) c.toNat = true)) ∧ ((¬ ((1 + (k : Int)) = 9 ∨ ((1 + (k : Int)) = 11 ∧ (4 : Int) = 5)) → cl = []))) (fun i => 5 - i) 0 ⟨[], none, 0, (((((F.nil.cons (vK (F.g 16 _ rfl) (by rfl))).cons (F.g 6 _ rfl)).cons (F.g 4 _ rfl)).cons (F.g 3 _ rfl)).cons (F.g 0 _ rfl)), H, hO, j0w _, ⟨by omega, rfl⟩, by simp, fun _ => rfl⟩ (fun i A W hI J90 hJ90 => ?_)
  clear F H hO; obtain ⟨cl, ca, cc, F, H, hO, hC, hi, hcl, hc9⟩ := hI
  obtain ⟨hi5, hil⟩ := hi
  refine wp_seq_k (fun K91 hK91 => ?_)
  refine wp_seq_k (fun K92 hK92 => jB ?_)
  iterate 3 (refine zd ?_; clear F A; intro A F)
  refine j7 F rfl (qH rfl (j0 (F.e rfl) j9) (qK Tryz.underlying25)) ?_; clear F A; intro A F
  refine zb (vB (i := i) (j := p.codes.length)) ?_; clear F A; intro A F
  refine zd ?_; clear F A; intro A F
  refine zg ?_; clear F A; intro A F
  refine zgb (vB (i := i) (j := 5)) ?_; clear F A; intro A F
  refine j7 F rfl (jI rfl (F.e rfl) (fun hx => (F.o rfl hx)) rfl) ?_; clear F A; intro A F
  refine zd ?_; clear F A; intro A F
  iterate 2 (refine zg ?_; clear F A; intro A F)
  refine zgb (jL) ?_; clear F A; intro A F
  iterate 3 (refine zg ?_; clear F A; intro A F)
  refine zgb (jL) ?_; clear F A; intro A F
  iterate 2 (refine zg ?_; clear F A; intro A F)
  refine zgb (jL) ?_; clear F A; intro A F
  iterate 2 (refine zg ?_; clear F A; intro A F)
  refine j7 F rfl (jI rfl (F.e rfl) (fun hx => (F.o rfl hx)) rfl) ?_; clear F A; intro A F
  refine wpList_nil (hK92 _ _ ?_)
  refine zc (fun hb93 => ?_) (fun hb93 => ?_)
  · skip
    refine wp_skip (hK91 _ _ ?_)
    replace hb93 : (((decide (i < p.codes.length)) && (decide (i < 5))) && ((decide (1 + ((k : Int)) = 9)) || ((decide (1 + ((k : Int)) = 11)) && false))) = true := hb93
    have hli : i < p.codes.length := of_decide_eq_true (ga1 (ga1 hb93))
    have hl5 : i < 5 := of_decide_eq_true (ga2 (ga1 hb93))
    have hK9 : ((1 + (k : Int)) = 9 ∨ ((1 + (k : Int)) = 11 ∧ (4 : Int) = 5)) := by have h8 := ga2 hb93; simp only [Bool.or_eq_true, Bool.and_eq_true, decide_eq_true_eq, Bool.and_true, Bool.and_false, Bool.or_false] at h8; omega
    obtain ⟨b9, off9, ha9, hbb9, _⟩ := (hp.kept H.k).hc.byte hli
    have hc8 : (p.codes[i]).toNat < 256 := UInt8.toNat_lt _
    refine v8 (fun A W => ∃ cb : Option Addr, ∃ cd : Nat, Fr A 340 [(0, (.int .i64 4)), (3, (.pointer (some ⟨b2, 0, none⟩))), (4, (.pointer (some ⟨b3, 0, none⟩))), (6, (.pointer (some ⟨b8, 0, none⟩))), (16, (.int .i64 ((i : Int)))), (279, (.int .i64 ((i : Int)))), (280, (.pointer (some ⟨b2, 23, none⟩))), (281, (.slice s.ca p.codes.length s.cc)), (282, (.int .i64 ((p.codes.length : Int)))), (283, (.bool (decide (i < p.codes.length)))), (284, (.bool (decide (i < p.codes.length)))), (285, (og ((decide (i < p.codes.length))) (.int .i64 ((i : Int))))), (286, (og ((decide (i < p.codes.length))) (.bool (decide (i < 5))))), (287, (.bool ((decide (i < p.codes.length)) && (decide (i < 5))))), (288, (.bool ((decide (i < p.codes.length)) && (decide (i < 5))))), (289, (og (((decide (i < p.codes.length)) && (decide (i < 5)))) (.pointer (some ⟨b8, 0, none⟩)))), (290, (og (((decide (i < p.codes.length)) && (decide (i < 5)))) (.int .i64 (1 + ((k : Int)))))), (291, (og (((decide (i < p.codes.length)) && (decide (i < 5)))) (.bool (decide (1 + ((k : Int)) = 9))))), (292, (og (((decide (i < p.codes.length)) && (decide (i < 5)))) (.bool (decide (1 + ((k : Int)) = 9))))), (293, (og ((((decide (i < p.codes.length)) && (decide (i < 5)))) && !(decide (1 + ((k : Int)) = 9))) (.pointer (some ⟨b8, 0, none⟩)))), (294, (og ((((decide (i < p.codes.length)) && (decide (i < 5)))) && !(decide (1 + ((k : Int)) = 9))) (.int .i64 (1 + ((k : Int)))))), (295, (og ((((decide (i < p.codes.length)) && (decide (i < 5)))) && !(decide (1 + ((k : Int)) = 9))) (.bool (decide (1 + ((k : Int)) = 11))))), (296, (og ((((decide (i < p.codes.length)) && (decide (i < 5)))) && !(decide (1 + ((k : Int)) = 9))) (.bool (decide (1 + ((k : Int)) = 11))))), (297, (og (((((decide (i < p.codes.length)) && (decide (i < 5)))) && !(decide (1 + ((k : Int)) = 9))) && (decide (1 + ((k : Int)) = 11))) (.int .i64 4))), (298, (og (((((decide (i < p.codes.length)) && (decide (i < 5)))) && !(decide (1 + ((k : Int)) = 9))) && (decide (1 + ((k : Int)) = 11))) (.bool false))), (299, (og ((((decide (i < p.codes.length)) && (decide (i < 5)))) && !(decide (1 + ((k : Int)) = 9))) (.bool ((decide (1 + ((k : Int)) = 11)) && false)))), (300, (og (((decide (i < p.codes.length)) && (decide (i < 5)))) (.bool ((decide (1 + ((k : Int)) = 9)) || ((decide (1 + ((k : Int)) = 11)) && false))))), (301, (.bool (((decide (i < p.codes.length)) && (decide (i < 5))) && ((decide (1 + ((k : Int)) = 9)) || ((decide (1 + ((k : Int)) = 11)) && false)))))] ∧ Hp w W [⟨b8, 27, (Pk.cells ({ P57 with filters := fm, codes := (cl ++ [UInt8.ofNat (rfx 4 (1 + (k : Int)) (p.codes[i]).toNat)]) }) ({ s56 with fa := ga, fc := gc, ca := cb, cc := cd }))⟩, ⟨b3, 27, jm⟩, ⟨b2, 27, (Pk.cells p s)⟩] ∧ W.ownsRow w.heap.size 51 2 (.slice ga fm.length gc) fm.length (FC fm) ∧ W.ownsRow w.heap.size 5 1 (.slice cb ((cl ++ [UInt8.ofNat (rfx 4 (1 + (k : Int)) (p.codes[i]).toNat)]).length) cd) ((cl ++ [UInt8.ofNat (rfx 4 (1 + (k : Int)) (p.codes[i]).toNat)]).length) (B8 (cl ++ [UInt8.ofNat (rfx 4 (1 + (k : Int)) (p.codes[i]).toNat)]))) (fun A W hM => ?_) (fun K94 hK94 => ?_)
    rotate_left
    · skip
      refine wp_block ?_
      refine wp_region_held_drew (S := fun wx => ∃ c9, Hp _ wx [⟨b8, 27, c9⟩, _, _]) (by kernel_rfl) ⟨_, H.drew⟩ (fun H9 => ?_); clear H9; replace H := H.drew
      replace hO := j8 hO (Kept.refl No _).drew
      replace hC := j8 hC (Kept.refl No _).drew
      generalize World.drew _ = W at *
      refine td 0 ?_; clear F A; intro A F
      refine td 2 ?_; clear F A; intro A F
      refine td 3 ?_; clear F A; intro A F
      refine td 5 ?_; clear F A; intro A F
      refine td 6 ?_; clear F A; intro A F
      refine td 7 ?_; clear F A; intro A F
      refine jG (v := (.pointer (some ⟨b9, off9 + i * 1, none⟩))) (i := 8) F rfl rfl (by kernel_rfl) (fun _ _ _ h => h) (⟨_, H⟩) (fun wz ⟨c9, H⟩ => (qJ rfl ((F.e rfl).trans (show _ = Value.slice (some ⟨b9, off9, none⟩) p.codes.length s.cc from by first | (rw [← ha9]; done) | (rw [← ha9]; rfl))) (F.e rfl) (vc Tryz.underlying25 (j7n _) hli))) ?_; clear F A; intro A F
      refine jG (v := (.int .u8 (((p.codes[i]).toNat : Int)))) (i := 9) F rfl rfl (by kernel_rfl) (fun _ _ _ h => h) (⟨_, H⟩) (fun wz ⟨c9, H⟩ => (jA rfl (F.e rfl) (jk (j4a _) ((hp.kept H.k).hc.byte_t ha9 hli)))) ?_; clear F A; intro A F
      refine vu (i := 1) (j := 4) (by kernel_rfl) ?_ ?_
      · skip
        refine qO (v := (.slice ca cl.length cc)) (i := 1) F rfl rfl (jA rfl (F.e rfl) (jk (j16 _) (H.c 0 rfl rfl))) (⟨_, H⟩) ?_; clear F A; intro A F
        refine jO (i := 4) (by kernel_rfl) (qO (v := (.int .i64 (1 + ((k : Int))))) (i := 4) F rfl rfl (jA rfl (F.e rfl) (jk (j8c _) (H.c 0 rfl rfl))) (⟨_, H⟩) ?_); clear F A; intro A F
        refine jO (i := 10) (by kernel_rfl) (jZ (i := 10) F rfl rfl (j6 rfl rfl (j0 (F.e rfl) (j0 (F.e rfl) (j0 (F.e rfl) j9))) j3x) (xT 4 (1 + (k : Int)) ((p.codes[i]).toNat) _ (by omega)) (fun _ hk => ⟨_, (H.kept hk)⟩) ?_); clear F A; intro W A hk _ F; replace H := H.kept hk
        replace hO := j8 hO hk
        replace hC := j8 hC hk
        clear hk
        refine jO (i := 11) (by kernel_rfl) (qi (i := 11) (c := #[.int .u8 ((rfx 4 (1 + (k : Int)) (p.codes[i]).toNat) : Int)]) (t := 5) (fun b9 => .slice (some ⟨b9, 0, none⟩) 1 1) F H rfl rfl (jW rfl (j4 (F.e rfl) qB) (by kernel_rfl)) (fun _ _ H => ⟨_, H.tl⟩) ?_); clear F A; intro b96 W A hk hN H9 F; clear H; have H := H9; clear H9
        have hne_hC_b96 := vT hC hN
        replace hO := j8 hO hk
        replace hC := j8 hC hk
        clear hk hN
        obtain ⟨i0, hi, hz0, hz1, hz2⟩ := info_parts qe
        obtain ⟨v9, W9, hrun, hO9, hg, _⟩ := run_append_own (P := Tryz.prog) _ w.heap.size 25 25 5 i0 _ 1 1 Tryz.underlying25 hi hz0 hz1 hz2 rfl (by decide) _ _ _ hC ⟨b96, 0, none⟩ 1 1 [.int .u8 ((rfx 4 (1 + (k : Int)) (p.codes[i]).toNat) : Int)] rfl (vN (H.b.at_ (j := 0) rfl).1) (vo rfl) (by unfold maxLen; omega) (by omega) H.size
        rw [j08 _ (zU _ _ _), ← jt, show cl.length + 1 = (cl ++ [UInt8.ofNat (rfx 4 (1 + (k : Int)) (p.codes[i]).toNat)]).length from by simp] at hO9
        have hkS := jo hg; obtain ⟨a97, c97, hv9⟩ := qC hO9; subst hv9
        replace H := Hp.grown H hC hkS (fa1 (zM hne_hC_b96) (fa1 (jS hC (H.b.at_ (j := 1) rfl).1 (show 27 ≠ 5 by decide)) (fa1 (jS hC (H.b.at_ (j := 2) rfl).1 (show 27 ≠ 5 by decide)) (fa1 (jS hC (H.b.at_ (j := 3) rfl).1 (show 27 ≠ 5 by decide)) fa0))))
        refine jO (i := 12) (by kernel_rfl) (qO (i := 12) F rfl rfl (ji rfl (j0 (F.e rfl) (j0 (F.e rfl) j9)) (fun cs => by simp only [builtin]; exact qM hrun)) (⟨_, H.tl⟩) ?_); clear F A; intro A F
        replace hO := js hC hO (by decide) hkS
        clear hrun hg hkS; clear hC; have hC := hO9; clear hO9; generalize W9 = W at *
        refine jG (v := (.pointer (some ⟨b8, 23, none⟩))) (i := 13) F rfl rfl (by kernel_rfl) (fun _ _ _ h => h) (⟨_, H.tl⟩) (fun wz ⟨c9, H⟩ => (qx rfl (F.e rfl) (xc _ _ _))) ?_; clear F A; intro A F
        let s98 : Sl := { s56 with fa := ga, fc := gc, ca := a97, cc := c97 }
        let P99 : Pk := { P57 with filters := fm, codes := (cl ++ [UInt8.ofNat (rfx 4 (1 + (k : Int)) (p.codes[i]).toNat)]) }
        refine tst 14 [_] ((Pk.cells P99 s98)) ?_; intro W H9 hk
        replace hO := jM hO (H.b.at_ (j := 1) rfl).1 (show 27 ≠ 51 by decide) hk
        replace hC := jM hC (H.b.at_ (j := 1) rfl).1 (show 27 ≠ 5 by decide) hk
        clear H hk; have H := H9; clear H9
        refine wpAnyH_done (by kernel_rfl) ?_ _
        exact hK94 _ _ ⟨a97, c97, ((((((((((((((((((((((((((((F.nil.cons (F.g 301 _ rfl)).cons (F.g 300 _ rfl)).cons (F.g 299 _ rfl)).cons (F.g 298 _ rfl)).cons (F.g 297 _ rfl)).cons (F.g 296 _ rfl)).cons (F.g 295 _ rfl)).cons (F.g 294 _ rfl)).cons (F.g 293 _ rfl)).cons (F.g 292 _ rfl)).cons (F.g 291 _ rfl)).cons (F.g 290 _ rfl)).cons (F.g 289 _ rfl)).cons (F.g 288 _ rfl)).cons (F.g 287 _ rfl)).cons (F.g 286 _ rfl)).cons (F.g 285 _ rfl)).cons (F.g 284 _ rfl)).cons (F.g 283 _ rfl)).cons (F.g 282 _ rfl)).cons (F.g 281 _ rfl)).cons (F.g 280 _ rfl)).cons (F.g 279 _ rfl)).cons (F.g 16 _ rfl)).cons (F.g 6 _ rfl)).cons (F.g 4 _ rfl)).cons (F.g 3 _ rfl)).cons (F.g 0 _ rfl)), H.tl, hO, hC⟩
      · skip
        refine qO (v := (.int .i64 (1 + ((k : Int))))) (i := 4) F rfl rfl (jA rfl (F.e rfl) (jk (j8c _) (H.c 0 rfl rfl))) (⟨_, H⟩) ?_; clear F A; intro A F
        refine vu (i := 1) (j := 10) (by kernel_rfl) ?_ ?_
        · skip
          refine qO (v := (.slice ca cl.length cc)) (i := 1) F rfl rfl (jA rfl (F.e rfl) (jk (j16 _) (H.c 0 rfl rfl))) (⟨_, H⟩) ?_; clear F A; intro A F
          refine jO (i := 10) (by kernel_rfl) (jZ (i := 10) F rfl rfl (j6 rfl rfl (j0 (F.e rfl) (j0 (F.e rfl) (j0 (F.e rfl) j9))) j3x) (xT 4 (1 + (k : Int)) ((p.codes[i]).toNat) _ (by omega)) (fun _ hk => ⟨_, (H.kept hk)⟩) ?_); clear F A; intro W A hk _ F; replace H := H.kept hk
          replace hO := j8 hO hk
          replace hC := j8 hC hk
          clear hk
          refine jO (i := 11) (by kernel_rfl) (qi (i := 11) (c := #[.int .u8 ((rfx 4 (1 + (k : Int)) (p.codes[i]).toNat) : Int)]) (t := 5) (fun b9 => .slice (some ⟨b9, 0, none⟩) 1 1) F H rfl rfl (jW rfl (j4 (F.e rfl) qB) (by kernel_rfl)) (fun _ _ H => ⟨_, H.tl⟩) ?_); clear F A; intro b101 W A hk hN H9 F; clear H; have H := H9; clear H9
          have hne_hC_b101 := vT hC hN
          replace hO := j8 hO hk
          replace hC := j8 hC hk
          clear hk hN
          obtain ⟨i0, hi, hz0, hz1, hz2⟩ := info_parts qe
          obtain ⟨v9, W9, hrun, hO9, hg, _⟩ := run_append_own (P := Tryz.prog) _ w.heap.size 25 25 5 i0 _ 1 1 Tryz.underlying25 hi hz0 hz1 hz2 rfl (by decide) _ _ _ hC ⟨b101, 0, none⟩ 1 1 [.int .u8 ((rfx 4 (1 + (k : Int)) (p.codes[i]).toNat) : Int)] rfl (vN (H.b.at_ (j := 0) rfl).1) (vo rfl) (by unfold maxLen; omega) (by omega) H.size
          rw [j08 _ (zU _ _ _), ← jt, show cl.length + 1 = (cl ++ [UInt8.ofNat (rfx 4 (1 + (k : Int)) (p.codes[i]).toNat)]).length from by simp] at hO9
          have hkS := jo hg; obtain ⟨a102, c102, hv9⟩ := qC hO9; subst hv9
          replace H := Hp.grown H hC hkS (fa1 (zM hne_hC_b101) (fa1 (jS hC (H.b.at_ (j := 1) rfl).1 (show 27 ≠ 5 by decide)) (fa1 (jS hC (H.b.at_ (j := 2) rfl).1 (show 27 ≠ 5 by decide)) (fa1 (jS hC (H.b.at_ (j := 3) rfl).1 (show 27 ≠ 5 by decide)) fa0))))
          refine jO (i := 12) (by kernel_rfl) (qO (i := 12) F rfl rfl (ji rfl (j0 (F.e rfl) (j0 (F.e rfl) j9)) (fun cs => by simp only [builtin]; exact qM hrun)) (⟨_, H.tl⟩) ?_); clear F A; intro A F
          replace hO := js hC hO (by decide) hkS
          clear hrun hg hkS; clear hC; have hC := hO9; clear hO9; generalize W9 = W at *
          refine jG (v := (.pointer (some ⟨b8, 23, none⟩))) (i := 13) F rfl rfl (by kernel_rfl) (fun _ _ _ h => h) (⟨_, H.tl⟩) (fun wz ⟨c9, H⟩ => (qx rfl (F.e rfl) (xc _ _ _))) ?_; clear F A; intro A F
          let s103 : Sl := { s56 with fa := ga, fc := gc, ca := a102, cc := c102 }
          let P104 : Pk := { P57 with filters := fm, codes := (cl ++ [UInt8.ofNat (rfx 4 (1 + (k : Int)) (p.codes[i]).toNat)]) }
          refine tst 14 [_] ((Pk.cells P104 s103)) ?_; intro W H9 hk
          replace hO := jM hO (H.b.at_ (j := 1) rfl).1 (show 27 ≠ 51 by decide) hk
          replace hC := jM hC (H.b.at_ (j := 1) rfl).1 (show 27 ≠ 5 by decide) hk
          clear H hk; have H := H9; clear H9
          refine wpAnyH_done (by kernel_rfl) ?_ _
          exact hK94 _ _ ⟨a102, c102, ((((((((((((((((((((((((((((F.nil.cons (F.g 301 _ rfl)).cons (F.g 300 _ rfl)).cons (F.g 299 _ rfl)).cons (F.g 298 _ rfl)).cons (F.g 297 _ rfl)).cons (F.g 296 _ rfl)).cons (F.g 295 _ rfl)).cons (F.g 294 _ rfl)).cons (F.g 293 _ rfl)).cons (F.g 292 _ rfl)).cons (F.g 291 _ rfl)).cons (F.g 290 _ rfl)).cons (F.g 289 _ rfl)).cons (F.g 288 _ rfl)).cons (F.g 287 _ rfl)).cons (F.g 286 _ rfl)).cons (F.g 285 _ rfl)).cons (F.g 284 _ rfl)).cons (F.g 283 _ rfl)).cons (F.g 282 _ rfl)).cons (F.g 281 _ rfl)).cons (F.g 280 _ rfl)).cons (F.g 279 _ rfl)).cons (F.g 16 _ rfl)).cons (F.g 6 _ rfl)).cons (F.g 4 _ rfl)).cons (F.g 3 _ rfl)).cons (F.g 0 _ rfl)), H.tl, hO, hC⟩
        · skip
          refine jZ (i := 10) F rfl rfl (j6 rfl rfl (j0 (F.e rfl) (j0 (F.e rfl) (j0 (F.e rfl) j9))) j3x) (xT 4 (1 + (k : Int)) ((p.codes[i]).toNat) _ (by omega)) (fun _ hk => ⟨_, (H.kept hk)⟩) ?_; clear F A; intro W A hk _ F; replace H := H.kept hk
          replace hO := j8 hO hk
          replace hC := j8 hC hk
          clear hk
          refine vu (i := 1) (j := 11) (by kernel_rfl) ?_ ?_
          · skip
            refine qO (v := (.slice ca cl.length cc)) (i := 1) F rfl rfl (jA rfl (F.e rfl) (jk (j16 _) (H.c 0 rfl rfl))) (⟨_, H⟩) ?_; clear F A; intro A F
            refine jO (i := 11) (by kernel_rfl) (qi (i := 11) (c := #[.int .u8 ((rfx 4 (1 + (k : Int)) (p.codes[i]).toNat) : Int)]) (t := 5) (fun b9 => .slice (some ⟨b9, 0, none⟩) 1 1) F H rfl rfl (jW rfl (j4 (F.e rfl) qB) (by kernel_rfl)) (fun _ _ H => ⟨_, H.tl⟩) ?_); clear F A; intro b106 W A hk hN H9 F; clear H; have H := H9; clear H9
            have hne_hC_b106 := vT hC hN
            replace hO := j8 hO hk
            replace hC := j8 hC hk
            clear hk hN
            obtain ⟨i0, hi, hz0, hz1, hz2⟩ := info_parts qe
            obtain ⟨v9, W9, hrun, hO9, hg, _⟩ := run_append_own (P := Tryz.prog) _ w.heap.size 25 25 5 i0 _ 1 1 Tryz.underlying25 hi hz0 hz1 hz2 rfl (by decide) _ _ _ hC ⟨b106, 0, none⟩ 1 1 [.int .u8 ((rfx 4 (1 + (k : Int)) (p.codes[i]).toNat) : Int)] rfl (vN (H.b.at_ (j := 0) rfl).1) (vo rfl) (by unfold maxLen; omega) (by omega) H.size
            rw [j08 _ (zU _ _ _), ← jt, show cl.length + 1 = (cl ++ [UInt8.ofNat (rfx 4 (1 + (k : Int)) (p.codes[i]).toNat)]).length from by simp] at hO9
            have hkS := jo hg; obtain ⟨a107, c107, hv9⟩ := qC hO9; subst hv9
            replace H := Hp.grown H hC hkS (fa1 (zM hne_hC_b106) (fa1 (jS hC (H.b.at_ (j := 1) rfl).1 (show 27 ≠ 5 by decide)) (fa1 (jS hC (H.b.at_ (j := 2) rfl).1 (show 27 ≠ 5 by decide)) (fa1 (jS hC (H.b.at_ (j := 3) rfl).1 (show 27 ≠ 5 by decide)) fa0))))
            refine jO (i := 12) (by kernel_rfl) (qO (i := 12) F rfl rfl (ji rfl (j0 (F.e rfl) (j0 (F.e rfl) j9)) (fun cs => by simp only [builtin]; exact qM hrun)) (⟨_, H.tl⟩) ?_); clear F A; intro A F
            replace hO := js hC hO (by decide) hkS
            clear hrun hg hkS; clear hC; have hC := hO9; clear hO9; generalize W9 = W at *
            refine jG (v := (.pointer (some ⟨b8, 23, none⟩))) (i := 13) F rfl rfl (by kernel_rfl) (fun _ _ _ h => h) (⟨_, H.tl⟩) (fun wz ⟨c9, H⟩ => (qx rfl (F.e rfl) (xc _ _ _))) ?_; clear F A; intro A F
            let s108 : Sl := { s56 with fa := ga, fc := gc, ca := a107, cc := c107 }
            let P109 : Pk := { P57 with filters := fm, codes := (cl ++ [UInt8.ofNat (rfx 4 (1 + (k : Int)) (p.codes[i]).toNat)]) }
            refine tst 14 [_] ((Pk.cells P109 s108)) ?_; intro W H9 hk
            replace hO := jM hO (H.b.at_ (j := 1) rfl).1 (show 27 ≠ 51 by decide) hk
            replace hC := jM hC (H.b.at_ (j := 1) rfl).1 (show 27 ≠ 5 by decide) hk
            clear H hk; have H := H9; clear H9
            refine wpAnyH_done (by kernel_rfl) ?_ _
            exact hK94 _ _ ⟨a107, c107, ((((((((((((((((((((((((((((F.nil.cons (F.g 301 _ rfl)).cons (F.g 300 _ rfl)).cons (F.g 299 _ rfl)).cons (F.g 298 _ rfl)).cons (F.g 297 _ rfl)).cons (F.g 296 _ rfl)).cons (F.g 295 _ rfl)).cons (F.g 294 _ rfl)).cons (F.g 293 _ rfl)).cons (F.g 292 _ rfl)).cons (F.g 291 _ rfl)).cons (F.g 290 _ rfl)).cons (F.g 289 _ rfl)).cons (F.g 288 _ rfl)).cons (F.g 287 _ rfl)).cons (F.g 286 _ rfl)).cons (F.g 285 _ rfl)).cons (F.g 284 _ rfl)).cons (F.g 283 _ rfl)).cons (F.g 282 _ rfl)).cons (F.g 281 _ rfl)).cons (F.g 280 _ rfl)).cons (F.g 279 _ rfl)).cons (F.g 16 _ rfl)).cons (F.g 6 _ rfl)).cons (F.g 4 _ rfl)).cons (F.g 3 _ rfl)).cons (F.g 0 _ rfl)), H.tl, hO, hC⟩
          · skip
            refine qi (i := 11) (c := #[.int .u8 ((rfx 4 (1 + (k : Int)) (p.codes[i]).toNat) : Int)]) (t := 5) (fun b9 => .slice (some ⟨b9, 0, none⟩) 1 1) F H rfl rfl (jW rfl (j4 (F.e rfl) qB) (by kernel_rfl)) (fun _ _ H => ⟨_, H.tl⟩) ?_; clear F A; intro b110 W A hk hN H9 F; clear H; have H := H9; clear H9
            have hne_hC_b110 := vT hC hN
            replace hO := j8 hO hk
            replace hC := j8 hC hk
            clear hk hN
            refine jO (i := 1) (by kernel_rfl) (qO (v := (.slice ca cl.length cc)) (i := 1) F rfl rfl (jA rfl (F.e rfl) (jk (j16 _) (H.c 1 rfl rfl))) (⟨_, H.tl⟩) ?_); clear F A; intro A F
            obtain ⟨i0, hi, hz0, hz1, hz2⟩ := info_parts qe
            obtain ⟨v9, W9, hrun, hO9, hg, _⟩ := run_append_own (P := Tryz.prog) _ w.heap.size 25 25 5 i0 _ 1 1 Tryz.underlying25 hi hz0 hz1 hz2 rfl (by decide) _ _ _ hC ⟨b110, 0, none⟩ 1 1 [.int .u8 ((rfx 4 (1 + (k : Int)) (p.codes[i]).toNat) : Int)] rfl (vN (H.b.at_ (j := 0) rfl).1) (vo rfl) (by unfold maxLen; omega) (by omega) H.size
            rw [j08 _ (zU _ _ _), ← jt, show cl.length + 1 = (cl ++ [UInt8.ofNat (rfx 4 (1 + (k : Int)) (p.codes[i]).toNat)]).length from by simp] at hO9
            have hkS := jo hg; obtain ⟨a111, c111, hv9⟩ := qC hO9; subst hv9
            replace H := Hp.grown H hC hkS (fa1 (zM hne_hC_b110) (fa1 (jS hC (H.b.at_ (j := 1) rfl).1 (show 27 ≠ 5 by decide)) (fa1 (jS hC (H.b.at_ (j := 2) rfl).1 (show 27 ≠ 5 by decide)) (fa1 (jS hC (H.b.at_ (j := 3) rfl).1 (show 27 ≠ 5 by decide)) fa0))))
            refine jO (i := 12) (by kernel_rfl) (qO (i := 12) F rfl rfl (ji rfl (j0 (F.e rfl) (j0 (F.e rfl) j9)) (fun cs => by simp only [builtin]; exact qM hrun)) (⟨_, H.tl⟩) ?_); clear F A; intro A F
            replace hO := js hC hO (by decide) hkS
            clear hrun hg hkS; clear hC; have hC := hO9; clear hO9; generalize W9 = W at *
            refine jG (v := (.pointer (some ⟨b8, 23, none⟩))) (i := 13) F rfl rfl (by kernel_rfl) (fun _ _ _ h => h) (⟨_, H.tl⟩) (fun wz ⟨c9, H⟩ => (qx rfl (F.e rfl) (xc _ _ _))) ?_; clear F A; intro A F
            let s112 : Sl := { s56 with fa := ga, fc := gc, ca := a111, cc := c111 }
            let P113 : Pk := { P57 with filters := fm, codes := (cl ++ [UInt8.ofNat (rfx 4 (1 + (k : Int)) (p.codes[i]).toNat)]) }
            refine tst 14 [_] ((Pk.cells P113 s112)) ?_; intro W H9 hk
            replace hO := jM hO (H.b.at_ (j := 1) rfl).1 (show 27 ≠ 51 by decide) hk
            replace hC := jM hC (H.b.at_ (j := 1) rfl).1 (show 27 ≠ 5 by decide) hk
            clear H hk; have H := H9; clear H9
            refine wpAnyH_done (by kernel_rfl) ?_ _
            exact hK94 _ _ ⟨a111, c111, ((((((((((((((((((((((((((((F.nil.cons (F.g 301 _ rfl)).cons (F.g 300 _ rfl)).cons (F.g 299 _ rfl)).cons (F.g 298 _ rfl)).cons (F.g 297 _ rfl)).cons (F.g 296 _ rfl)).cons (F.g 295 _ rfl)).cons (F.g 294 _ rfl)).cons (F.g 293 _ rfl)).cons (F.g 292 _ rfl)).cons (F.g 291 _ rfl)).cons (F.g 290 _ rfl)).cons (F.g 289 _ rfl)).cons (F.g 288 _ rfl)).cons (F.g 287 _ rfl)).cons (F.g 286 _ rfl)).cons (F.g 285 _ rfl)).cons (F.g 284 _ rfl)).cons (F.g 283 _ rfl)).cons (F.g 282 _ rfl)).cons (F.g 281 _ rfl)).cons (F.g 280 _ rfl)).cons (F.g 279 _ rfl)).cons (F.g 16 _ rfl)).cons (F.g 6 _ rfl)).cons (F.g 4 _ rfl)).cons (F.g 3 _ rfl)).cons (F.g 0 _ rfl)), H.tl, hO, hC⟩
    clear F H hO hC; obtain ⟨cb, cd, F, H, hO, hC⟩ := hM
    refine jB ?_
    refine zd ?_; clear F A; intro A F
    refine j7 F rfl (jF rfl (F.e rfl) jD (jd (jK (by omega) (by omega)))) ?_; clear F A; intro A F
    refine zd ?_; clear F A; intro A F
    refine wpList_nil ?_
    exact hJ90 ((i + 1)) _ _ (by omega) ⟨(cl ++ [UInt8.ofNat (rfx 4 (1 + (k : Int)) (p.codes[i]).toNat)]), cb, cd, (((((F.nil.cons (vK (F.g 16 _ rfl) (by simp))).cons (F.g 6 _ rfl)).cons (F.g 4 _ rfl)).cons (F.g 3 _ rfl)).cons (F.g 0 _ rfl)), H, hO, hC, ⟨by omega, by simp; omega⟩, (by intro c hc; rcases List.mem_append.1 hc with hc | hc; exact hcl c hc; rw [List.mem_singleton.1 hc, j44 _ (zU _ _ _)]; exact j1u (jCl (by omega) hK9)), fun h => absurd hK9 h⟩
  refine wp_exit ?_
  refine hK88 _ _ ?_
  refine v8 (fun A W => ∃ dl : List UInt8, ∃ da : Option Addr, ∃ dc : Nat, Fr A 340 [(4, (.pointer (some ⟨b3, 0, none⟩))), (6, (.pointer (some ⟨b8, 0, none⟩)))] ∧ Hp w W [⟨b8, 27, (Pk.cells ({ P57 with filters := fm, codes := dl }) ({ s56 with fa := ga, fc := gc, ca := da, cc := dc }))⟩, ⟨b3, 27, jm⟩, ⟨b2, 27, (Pk.cells p s)⟩] ∧ W.ownsRow w.heap.size 51 2 (.slice ga fm.length gc) fm.length (FC fm) ∧ W.ownsRow w.heap.size 5 1 (.slice da dl.length dc) dl.length (B8 dl) ∧ (dl.length ≤ 5) ∧ ((((1 + (k : Int)) = 9 ∨ ((1 + (k : Int)) = 11 ∧ (4 : Int) = 5)) → 1 ≤ dl.length ∧ ∀ c ∈ dl, ke 4 (1 + (k : Int)) c.toNat = true)) ∧ ((¬ ((1 + (k : Int)) = 9 ∨ ((1 + (k : Int)) = 11 ∧ (4 : Int) = 5)) → dl = []))) (fun A W hM => ?_) (fun K114 hK114 => ?_)
  rotate_left
  · skip
    refine wp_seq_k (fun K115 hK115 => jB ?_)
    iterate 2 (refine zd ?_; clear F A; intro A F)
    refine j7 F rfl (qH rfl (j0 (F.e rfl) j9) (qK Tryz.underlying25)) ?_; clear F A; intro A F
    refine zb (jx (i := cl.length) (j := 0)) ?_; clear F A; intro A F
    refine zd ?_; clear F A; intro A F
    iterate 2 (refine zg ?_; clear F A; intro A F)
    refine zgb (jL) ?_; clear F A; intro A F
    iterate 3 (refine zg ?_; clear F A; intro A F)
    refine zgb (jL) ?_; clear F A; intro A F
    iterate 2 (refine zg ?_; clear F A; intro A F)
    refine zgb (jL) ?_; clear F A; intro A F
    iterate 2 (refine zg ?_; clear F A; intro A F)
    refine j7 F rfl (jI rfl (F.e rfl) (fun hx => (F.o rfl hx)) rfl) ?_; clear F A; intro A F
    refine wpList_nil (hK115 _ _ ?_)
    refine zc (fun hb116 => ?_) (fun hb116 => ?_)
    · skip
      replace F := ((F.nil.cons (F.g 6 _ rfl)).cons (F.g 4 _ rfl))
      refine jB ?_
      refine j40 (c := #[.int .u8 0]) (t := 5) (m := 1) F H rfl (jW rfl (j4 jD qB) (by kernel_rfl)) ?_; clear F A; intro b117 W A hk hN H9 F; clear H; have H := H9; clear H9
      have hne_hC_b117 := vT hC hN
      replace hO := j8 hO hk
      replace hC := j8 hC hk
      clear hk hN
      refine zd ?_; clear F A; intro A F
      let s118 : Sl := { s56 with fa := ga, fc := gc, ca := (some ⟨b117, 0, none⟩), cc := 1 }
      let P119 : Pk := { P57 with filters := fm, codes := [0] }
      refine zs [_] ((Pk.cells P119 s118)) ?_; intro W H9 hk
      replace hO := jM hO (H.b.at_ (j := 1) rfl).1 (show 27 ≠ 51 by decide) hk
      replace hC := jM hC (H.b.at_ (j := 1) rfl).1 (show 27 ≠ 5 by decide) hk
      clear H hk; have H := H9; clear H9
      refine wpList_nil ?_
      replace hb116 : ((decide (cl.length = 0)) && ((decide (1 + ((k : Int)) = 9)) || ((decide (1 + ((k : Int)) = 11)) && false))) = true := hb116
      exact hK114 _ _ ⟨[0], (some ⟨b117, 0, none⟩), 1, ((F.nil.cons (F.g 6 _ rfl)).cons (F.g 4 _ rfl)), H.tl, hO, (j32 (k := 1) H rfl (by decide)), (by decide), fun _ => ⟨by decide, by intro c hc; rw [List.mem_singleton.1 hc]; exact jD0 (by omega) (by have h8 := ga2 hb116; simp only [Bool.or_eq_true, Bool.and_eq_true, decide_eq_true_eq, Bool.and_true, Bool.and_false, Bool.or_false] at h8; omega)⟩, fun h9 => absurd (show ((1 + (k : Int)) = 9 ∨ ((1 + (k : Int)) = 11 ∧ (4 : Int) = 5)) from by have h8 := ga2 hb116; simp only [Bool.or_eq_true, Bool.and_eq_true, decide_eq_true_eq, Bool.and_true, Bool.and_false, Bool.or_false] at h8; omega) h9⟩
    replace F := ((F.nil.cons (F.g 6 _ rfl)).cons (F.g 4 _ rfl))
    refine wp_skip ?_
    replace hb116 : ((decide (cl.length = 0)) && ((decide (1 + ((k : Int)) = 9)) || ((decide (1 + ((k : Int)) = 11)) && false))) = false := hb116
    exact hK114 _ _ ⟨cl, ca, cc, ((F.nil.cons (F.g 6 _ rfl)).cons (F.g 4 _ rfl)), H, hO, hC, (by omega), (fun h9 => ⟨by rcases Nat.eq_zero_or_pos cl.length with h0 | h0; exfalso; have h8 := hb116; rcases h9 with g9 | ⟨g9, g5⟩ <;> (first | exact absurd g5 (by decide) | (rw [decide_eq_true h0, decide_eq_true g9] at h8; simp at h8)); exact h0, hcl⟩), hc9⟩
  clear F H hO hC; obtain ⟨dl, da, dc, F, H, hO, hC, hdl, hd9, hd0⟩ := hM
  refine wp_seq_k (fun K120 hK120 => jB ?_)
  refine j7 F rfl (jA rfl (F.e rfl) (jE ((Pk.cells ({ P57 with filters := fm, codes := dl }) ({ s56 with fa := ga, fc := gc, ca := da, cc := dc }))) rfl (qR _) (jg _) (fun i => H.cs 0 rfl i))) ?_; clear F A; intro A F
  have hAt : Pk.At ({ P57 with filters := fm, codes := dl }) ({ s56 with fa := ga, fc := gc, ca := da, cc := dc }) W := ⟨Row.nil _ _, (ju hO).1, (ju hC).1, Row.nil _ _⟩
  refine jf F H rfl (j6 rfl rfl (j0 (F.e rfl) j9) jKn) (j7w ({ P57 with filters := fm, codes := dl }) ({ s56 with fa := ga, fc := gc, ca := da, cc := dc }) _ (hAt.kept (Kept.refl No _))) ?_; clear F H A; intro W A hk H F
  replace hO := j8 hO hk
  replace hC := j8 hC hk
  clear hk
  obtain ⟨W9, hr, hB, hk⟩ := jC (P := Tryz.prog) (S := 27) (c := (Pk.cells ((jP ({ P57 with filters := fm, codes := dl }))) ((qA ({ P57 with filters := fm, codes := dl }) ({ s56 with fa := ga, fc := gc, ca := da, cc := dc }))))) _ (H.b.at_ (j := 1) rfl).1 (jg _) rfl (ja _ _)
  replace hO := jM hO (H.b.at_ (j := 1) rfl).1 (show 27 ≠ 51 by decide) hk
  replace hC := jM hC (H.b.at_ (j := 1) rfl).1 (show 27 ≠ 5 by decide) hk
  refine q9 (jJ rfl (F.e rfl) (F.e rfl) hr) ?_; clear hr; replace H : Hp _ _ [_, _, _] := Hp.turn [_] H hk hB; clear hk hB
  refine wpList_nil (hK120 _ _ ?_)
  refine jH ?_
  refine (show bodyPost _ Tryz.f4 RR Exit.ret _ _ from ?_)
  have hFQ : FixQ 4 ({ p with kind := 1 + ((k : Int)), client := (vX p.client), user := (vX p.user), topic := (zN p.topic), willTopic := (zN p.willTopic), pass := (j0j 9 p.pass), willLoad := (j0j 9 p.willLoad), load := (j0j 40 p.load), qos := (p.qos % 3), willQoS := (p.willQoS % 3), dup := p.dup && (decide (0 < (p.qos % 3))), id := i2, hasPass := p.hasPass && p.hasUser, clean := p.clean || (decide ((vX p.client) = ⟨#[]⟩)), code := rfx 4 (1 + (k : Int)) p.code, present := p.present && (decide (rfx 4 (1 + (k : Int)) p.code = 0)), props := [], willProps := [], filters := fm, codes := dl }) := by
    exact ⟨(by dsimp only; omega), (by dsimp only; omega), (by intro h; dsimp only; omega), (by dsimp only; omega), (by dsimp only; intro h; have := of_decide_eq_true (ga2 h); omega), (by dsimp only; exact hi2.2.2), (by dsimp only; exact hi2.1), (by dsimp only; exact hi2.2.1), (by exact hY.keep), (by dsimp only; intro _ h; revert h; cases p.hasPass <;> cases p.hasUser <;> simp), (by dsimp only; exact j0s _), (by dsimp only; exact j0s _), (by dsimp only; have := zE p.client; omega), (by dsimp only; have := zE p.user; omega), (by dsimp only; have := j0k 9 p.pass; omega), (by dsimp only; have := j0k 9 p.willLoad; omega), (by dsimp only; have := j0k 40 p.load; omega), (by dsimp only; intro _ h; rw [show vX p.client = ⟨#[]⟩ from zu h]; cases p.clean <;> simp), (by dsimp only; omega), (by dsimp only; exact (vg _).name), (by dsimp only; have := (vg p.willTopic).size.2; omega), (by dsimp only; exact j1u), (by dsimp only; exact zU _ _ _), (by dsimp only; intro h; exact of_decide_eq_true (ga2 h)), (by intro _; exact ⟨rfl, rfl⟩), (by rfl), (by rfl), (by dsimp only; intro h; omega), (by exact Nat.zero_le _), (by exact Nat.zero_le _), (by intro x hx; cases hx), (by intro x hx; cases hx), (by exact .inl (vg p.topic).name), (by dsimp only; have := (vg p.topic).size.2; omega), (by dsimp only; exact hfm.1), (by dsimp only; exact hfm.2), (by dsimp only; exact hfo), (by dsimp only; exact hdl), (by dsimp only; exact hd9), (by dsimp only; exact hd0), (by exact List.Pairwise.nil), (by exact List.Pairwise.nil)⟩
  exact bodyPost_ret (fn := Tryz.f4) (jc rfl (F.g 4 _ rfl) (jE ((Pk.cells ((jP ({ P57 with filters := fm, codes := dl }))) ((qA ({ P57 with filters := fm, codes := dl }) ({ s56 with fa := ga, fc := gc, ca := da, cc := dc }))))) rfl (qR _) (jg _) (fun i => H.cs 1 rfl i))) F.d (⟨_, _, rfl, j6e (p := ({ P57 with filters := fm, codes := dl })) (s := ({ s56 with fa := ga, fc := gc, ca := da, cc := dc })) ⟨Row.nil _ _, (ju hO).1, (ju hC).1, Row.nil _ _⟩, ⟨_, rfl, hFQ⟩, jAh (p := ({ P57 with filters := fm, codes := dl })) (s := ({ s56 with fa := ga, fc := gc, ca := da, cc := dc })) (fun h => (ju hC).2 h), H.k, ownSl_lo (p := ({ P57 with filters := fm, codes := dl })) (s := ({ s56 with fa := ga, fc := gc, ca := da, cc := dc })) (own_loF hO) (own_loF hC)⟩)
end Go.Proofs.YtkochkhfbhjicaaGreatDoor
