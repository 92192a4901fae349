import Derived.Test.YtddolflgnfhfmaaGreatDoorZFxWB
namespace Go.Proofs.YtddolflgnfhfmaaGreatDoor
open Go.RowKit
set_option linter.unusedVariables false
set_option linter.unusedSimpArgs false
set_option maxRecDepth 100000
theorem u16_nat (a : Int) : ∃ n : Nat, IntKind.u16.wrap a = (n : Int) ∧ n < 65536 := by
 rw [IntKind.wrap_u16]
 exact ⟨(a % 65536).toNat, by omega, by omega⟩
theorem rn_sadd {P : Program} {w : World} {t : TypeId} {i j : ByteArray} {x y : Operand} (h : i.size ≤ 40) (hj : j.size ≤ 1) : (do eqGuard .add t x y (.string i) (.string j); binOp .add t (.string i) (.string j) : Sem Value).run P w = .ok (.string (i ++ j)) w := by
 simp [eqGuard, binOp, go_sem]
 omega
theorem sz_add {a b : ByteArray} {m : Nat} (h : a.size ≤ m) (hb : b.size ≤ 1) : (a ++ b).size ≤ m + 1 := by rw [ByteArray.size_append]; omega
theorem rightP_bare {v : Int} {p : Pk} (h : decide (bareP p = p) = false) : rightP v p = false := by
 have h1 : decide (p = bareP p) = false := decide_eq_false (fun e => of_decide_eq_false h e.symm)
 unfold rightP
 rw [h1]
 simp
set_option maxHeartbeats 4000000 in
theorem packetBares_walk (a : Int) (p : Pk) (s : Sl) (t : Int) (w : World) (hp : p.At s w) (hY : Any p) (hT : Tabs w) (hN : NamesAt w) :
  Calls Tryz.prog 4 #[.int .i64 a, p.val s, .int .i64 t] w fun e w' => e = .returned (.bool true) ∧ Below w.heap.size w w' := by
 obtain ⟨k, hkm, hk⟩ := kind_mod a 2 (by decide) (by decide)
 obtain ⟨m, hmm, hm⟩ := kind_mod t 8 (by decide) (by decide)
 let RR : Ending → World → Prop := fun e w' => e = .returned (.bool true) ∧ Below w.heap.size w w'
 go_enter Tryz.func4, Tryz.ntmps4
 generalize hA : ({ tmps := _, defers := [] } : Act) = A
 have F : Fr A 101 [(2, (.int .i64 t)), (1, (Pk.val p s)), (0, (.int .i64 a))] := by rw [← hA]; exact (Fr.cons (i := 2) (v := (.int .i64 t)) (Fr.cons (i := 1) (v := (Pk.val p s)) (Fr.cons (i := 0) (v := (.int .i64 a)) (Fr.nil0 rfl rfl) rfl) rfl) rfl)
 clear hA; have H := Hp.start w
 refine wp_seq_k (fun K1 hK1 => gx_region ?_)
 refine hz_new (c := (Pk.cells p s)) (t := 28) F H rfl (ex_box rfl (F.e rfl) (gx_box _ _)) ?_; clear F A; intro b2 W A hk hN H9 F; clear H; have H := H9; clear H9
 clear hk hN
 refine zd ?_; intro A F
 refine wpList_nil (hK1 _ _ ?_)
 refine wp_seq_k (fun K3 hK3 => gx_region ?_)
 refine zd ?_; intro A F
 refine hz_do F rfl (ex_conv rfl (F.e rfl) (cv_u64 _ _)) ?_; intro A F
 refine zb (rn_rem (by decide) hkm) ?_; intro A F
 refine hz_do F rfl (ex_conv rfl (F.e rfl) (cv_i64 _ _ (by omega))) ?_; intro A F
 refine hz_do F rfl (ex_bin rfl gx_evc (F.e rfl) (rn_add (gx_wrap_i64 (by omega) (by omega)))) ?_; intro A F
 refine zd ?_; intro A F
 refine wpList_nil (hK3 _ _ ?_)
 refine wp_seq_k (fun K4 hK4 => gx_region ?_)
 refine zd ?_; intro A F
 refine hz_do F rfl (ex_load rfl (F.e rfl) (gl_agg ((Pk.cells p s)) rfl (ga_28 _) (gs_28 _) (fun i => H.cs 0 rfl i))) ?_; intro A F
 refine hz_call (R := FixR (4 + ((k : Int)))) F H rfl (ex_call rfl rfl (gx_l1 (F.e rfl) (gx_l1 (F.e rfl) gx_l0)) fn_15) (fix7_full (4 + ((k : Int))) p s _ (by omega) (hp.kept H.k) hY) ?_; clear F H A; intro vv W A hR hk H F; obtain ⟨q5, s5, rfl, hA5, hF5, hR5, hC5⟩ := hR
 clear hk
 obtain ⟨w5, K5, hA5⟩ : ∃ w1, Kept No w1 W ∧ Pk.At q5 s5 w1 := ⟨W, Kept.refl No W, hA5⟩
 refine hz_new (c := zeroPk) (t := 28) F H rfl (ex_alloc rfl (al_28 _)) ?_; clear F A; intro b6 W A hk hN H9 F; clear H; have H := H9; clear H9
 have hN_K5_b6 := Nat.le_trans K5.size hN
 replace K5 := K5.trans hk
 clear hk hN
 obtain ⟨W9, hr, hB, hk⟩ := gx_storeAgg (P := Tryz.prog) (S := 28) (c := (Pk.cells q5 s5)) _ (H.b.at_ (j := 0) rfl).1 (gs_28 _) rfl (pk_one _ _)
 refine hz_st (ex_store rfl (F.e rfl) (F.e rfl) hr) ?_; clear hr; replace H : Hp _ _ [_, _] := Hp.turn [] H hk hB; replace K5 := K5.then hk (fun i9 hi9 e9 => by have e9 : i9 = b6 := e9; have := hN_K5_b6; omega); clear hk hB
 refine wpList_nil (hK4 _ _ ?_)
 refine wp_seq_k (fun K7 hK7 => gx_region ?_)
 refine hz_do F rfl (ex_load rfl (F.e rfl) (gl_agg ((Pk.cells q5 s5)) rfl (ga_28 _) (gs_28 _) (fun i => H.cs 0 rfl i))) ?_; intro A F
 refine hz_new (c := zeroPk) (t := 28) F H rfl (ex_alloc rfl (al_28 _)) ?_; clear F A; intro b8 W A hk hN H9 F; clear H; have H := H9; clear H9
 have hN_K5_b8 := Nat.le_trans K5.size hN
 replace K5 := K5.trans hk
 clear hk hN
 obtain ⟨W9, hr, hB, hk⟩ := gx_storeAgg (P := Tryz.prog) (S := 28) (c := (Pk.cells q5 s5)) _ (H.b.at_ (j := 0) rfl).1 (gs_28 _) rfl (pk_one _ _)
 refine hz_st (ex_store rfl (F.e rfl) (F.e rfl) hr) ?_; clear hr; replace H : Hp _ _ [_, _, _] := Hp.turn [] H hk hB; replace K5 := K5.then hk (fun i9 hi9 e9 => by have e9 : i9 = b8 := e9; have := hN_K5_b8; omega); clear hk hB
 refine wpList_nil (hK7 _ _ ?_)
 refine hz_cut (fun A W => ∃ x : Pk, ∃ sx : Sl, Fr A 101 [(6, (.bool false)), (7, (.int .i64 (4 + ((k : Int))))), (8, (.pointer (some ⟨b6, 0, none⟩))), (9, (.pointer (some ⟨b8, 0, none⟩)))] ∧ Hp w W [⟨b8, 28, (Pk.cells x sx)⟩, ⟨b6, 28, (Pk.cells q5 s5)⟩, ⟨b2, 28, (Pk.cells p s)⟩] ∧ (Pk.At x sx w5) ∧ (Fine 41 x) ∧ ((sx.ca = none → x.codes.length = 0 ∧ sx.cc = 0)) ∧ (Kept No w5 W)) (fun A W hM => ?_) (fun K9 hK9 => ?_)
 rotate_left
 ·skip
  refine wp_seq_k (fun K10 hK10 => gx_region ?_)
  refine zd ?_; intro A F
  refine hz_do F rfl (ex_conv rfl (F.e rfl) (cv_u64 _ _)) ?_; intro A F
  refine zb (rn_rem (by decide) hmm) ?_; intro A F
  refine hz_do F rfl (ex_conv rfl (F.e rfl) (cv_i64 _ _ (by omega))) ?_; intro A F
  refine wpList_nil (hK10 _ _ ?_)
  refine wp_block ?_
  refine wp_seq_k (fun K11 hK11 => gx_region ?_)
  refine zb (rn_eqlN (i := m) (j := 0)) ?_; intro A F
  refine zd ?_; intro A F
  refine wpList_nil (hK11 _ _ ?_)
  refine zc (fun hb12 => ?_) (fun hb12 => ?_)
  ·skip
   refine gx_region ?_
   iterate 2 (refine zd ?_; intro A F)
   obtain ⟨n9, hn9, hlt9⟩ := u16_nat ((q5.keep : Int) + 1)
   refine zb (rn_add hn9) ?_; intro A F
   refine zd ?_; intro A F
   let P13 : Pk := { q5 with keep := n9 }
   refine zs [] ((Pk.cells P13 s5)) ?_; intro W H9 hk
   replace K5 := K5.then hk (fun i9 hi9 e9 => by have e9 : i9 = b8 := e9; have := hN_K5_b8; omega)
   clear H hk; have H := H9; clear H9
   refine wpList_nil ?_
   exact hK9 _ _ ⟨P13, s5, ((((F.nil.cons (F.g 9 _ rfl)).cons (F.g 8 _ rfl)).cons (F.g 7 _ rfl)).cons (F.g 6 _ rfl)), H, ⟨hA5.hw, hA5.hf, hA5.hc, hA5.hp⟩, ⟨(hF5.mono (show 40 ≤ 41 by decide)).client, (hF5.mono (show 40 ≤ 41 by decide)).willTopic, (hF5.mono (show 40 ≤ 41 by decide)).willLoad, (hF5.mono (show 40 ≤ 41 by decide)).user, (hF5.mono (show 40 ≤ 41 by decide)).pass, (hF5.mono (show 40 ≤ 41 by decide)).topic, (hF5.mono (show 40 ≤ 41 by decide)).load, (hF5.mono (show 40 ≤ 41 by decide)).codes, (hF5.mono (show 40 ≤ 41 by decide)).nf, (hF5.mono (show 40 ≤ 41 by decide)).np, (hF5.mono (show 40 ≤ 41 by decide)).nw, (hF5.mono (show 40 ≤ 41 by decide)).tf, (hF5.mono (show 40 ≤ 41 by decide)).tp, (hF5.mono (show 40 ≤ 41 by decide)).tw, (hF5.mono (show 40 ≤ 41 by decide)).qos, (hF5.mono (show 40 ≤ 41 by decide)).id, hlt9, (hF5.mono (show 40 ≤ 41 by decide)).wq, (hF5.mono (show 40 ≤ 41 by decide)).code⟩, hC5, K5⟩
  refine wp_seq_k (fun K14 hK14 => gx_region ?_)
  refine zb (rn_eqlN (i := m) (j := 1)) ?_; intro A F
  refine zd ?_; intro A F
  refine wpList_nil (hK14 _ _ ?_)
  refine zc (fun hb15 => ?_) (fun hb15 => ?_)
  ·skip
   refine gx_region ?_
   iterate 2 (refine zd ?_; intro A F)
   refine hz_do F rfl (ex_bin rfl (F.e rfl) gx_evc (rn_sadd hF5.client (by decide))) ?_; intro A F
   refine zd ?_; intro A F
   let P16 : Pk := { q5 with client := (q5.client ++ ⟨#[97]⟩) }
   refine zs [] ((Pk.cells P16 s5)) ?_; intro W H9 hk
   replace K5 := K5.then hk (fun i9 hi9 e9 => by have e9 : i9 = b8 := e9; have := hN_K5_b8; omega)
   clear H hk; have H := H9; clear H9
   refine wpList_nil ?_
   exact hK9 _ _ ⟨P16, s5, ((((F.nil.cons (F.g 9 _ rfl)).cons (F.g 8 _ rfl)).cons (F.g 7 _ rfl)).cons (F.g 6 _ rfl)), H, ⟨hA5.hw, hA5.hf, hA5.hc, hA5.hp⟩, ⟨(sz_add hF5.client (by decide)), (hF5.mono (show 40 ≤ 41 by decide)).willTopic, (hF5.mono (show 40 ≤ 41 by decide)).willLoad, (hF5.mono (show 40 ≤ 41 by decide)).user, (hF5.mono (show 40 ≤ 41 by decide)).pass, (hF5.mono (show 40 ≤ 41 by decide)).topic, (hF5.mono (show 40 ≤ 41 by decide)).load, (hF5.mono (show 40 ≤ 41 by decide)).codes, (hF5.mono (show 40 ≤ 41 by decide)).nf, (hF5.mono (show 40 ≤ 41 by decide)).np, (hF5.mono (show 40 ≤ 41 by decide)).nw, (hF5.mono (show 40 ≤ 41 by decide)).tf, (hF5.mono (show 40 ≤ 41 by decide)).tp, (hF5.mono (show 40 ≤ 41 by decide)).tw, (hF5.mono (show 40 ≤ 41 by decide)).qos, (hF5.mono (show 40 ≤ 41 by decide)).id, (hF5.mono (show 40 ≤ 41 by decide)).keep, (hF5.mono (show 40 ≤ 41 by decide)).wq, (hF5.mono (show 40 ≤ 41 by decide)).code⟩, hC5, K5⟩
  refine wp_seq_k (fun K17 hK17 => gx_region ?_)
  refine zb (rn_eqlN (i := m) (j := 2)) ?_; intro A F
  refine zd ?_; intro A F
  refine wpList_nil (hK17 _ _ ?_)
  refine zc (fun hb18 => ?_) (fun hb18 => ?_)
  ·skip
   refine gx_region ?_
   iterate 2 (refine zd ?_; intro A F)
   refine hz_do F rfl (ex_bin rfl (F.e rfl) gx_evc (rn_sadd hF5.topic (by decide))) ?_; intro A F
   refine zd ?_; intro A F
   let P19 : Pk := { q5 with topic := (q5.topic ++ ⟨#[97]⟩) }
   refine zs [] ((Pk.cells P19 s5)) ?_; intro W H9 hk
   replace K5 := K5.then hk (fun i9 hi9 e9 => by have e9 : i9 = b8 := e9; have := hN_K5_b8; omega)
   clear H hk; have H := H9; clear H9
   refine wpList_nil ?_
   exact hK9 _ _ ⟨P19, s5, ((((F.nil.cons (F.g 9 _ rfl)).cons (F.g 8 _ rfl)).cons (F.g 7 _ rfl)).cons (F.g 6 _ rfl)), H, ⟨hA5.hw, hA5.hf, hA5.hc, hA5.hp⟩, ⟨(hF5.mono (show 40 ≤ 41 by decide)).client, (hF5.mono (show 40 ≤ 41 by decide)).willTopic, (hF5.mono (show 40 ≤ 41 by decide)).willLoad, (hF5.mono (show 40 ≤ 41 by decide)).user, (hF5.mono (show 40 ≤ 41 by decide)).pass, (sz_add hF5.topic (by decide)), (hF5.mono (show 40 ≤ 41 by decide)).load, (hF5.mono (show 40 ≤ 41 by decide)).codes, (hF5.mono (show 40 ≤ 41 by decide)).nf, (hF5.mono (show 40 ≤ 41 by decide)).np, (hF5.mono (show 40 ≤ 41 by decide)).nw, (hF5.mono (show 40 ≤ 41 by decide)).tf, (hF5.mono (show 40 ≤ 41 by decide)).tp, (hF5.mono (show 40 ≤ 41 by decide)).tw, (hF5.mono (show 40 ≤ 41 by decide)).qos, (hF5.mono (show 40 ≤ 41 by decide)).id, (hF5.mono (show 40 ≤ 41 by decide)).keep, (hF5.mono (show 40 ≤ 41 by decide)).wq, (hF5.mono (show 40 ≤ 41 by decide)).code⟩, hC5, K5⟩
  refine wp_seq_k (fun K20 hK20 => gx_region ?_)
  refine zb (rn_eqlN (i := m) (j := 3)) ?_; intro A F
  refine zd ?_; intro A F
  refine wpList_nil (hK20 _ _ ?_)
  refine zc (fun hb21 => ?_) (fun hb21 => ?_)
  ·skip
   refine gx_region ?_
   iterate 2 (refine zd ?_; intro A F)
   refine hz_do F rfl (ex_bin rfl (F.e rfl) gx_evc (rn_sadd hF5.load (by decide))) ?_; intro A F
   refine zd ?_; intro A F
   let P22 : Pk := { q5 with load := (q5.load ++ ⟨#[97]⟩) }
   refine zs [] ((Pk.cells P22 s5)) ?_; intro W H9 hk
   replace K5 := K5.then hk (fun i9 hi9 e9 => by have e9 : i9 = b8 := e9; have := hN_K5_b8; omega)
   clear H hk; have H := H9; clear H9
   refine wpList_nil ?_
   exact hK9 _ _ ⟨P22, s5, ((((F.nil.cons (F.g 9 _ rfl)).cons (F.g 8 _ rfl)).cons (F.g 7 _ rfl)).cons (F.g 6 _ rfl)), H, ⟨hA5.hw, hA5.hf, hA5.hc, hA5.hp⟩, ⟨(hF5.mono (show 40 ≤ 41 by decide)).client, (hF5.mono (show 40 ≤ 41 by decide)).willTopic, (hF5.mono (show 40 ≤ 41 by decide)).willLoad, (hF5.mono (show 40 ≤ 41 by decide)).user, (hF5.mono (show 40 ≤ 41 by decide)).pass, (hF5.mono (show 40 ≤ 41 by decide)).topic, (sz_add hF5.load (by decide)), (hF5.mono (show 40 ≤ 41 by decide)).codes, (hF5.mono (show 40 ≤ 41 by decide)).nf, (hF5.mono (show 40 ≤ 41 by decide)).np, (hF5.mono (show 40 ≤ 41 by decide)).nw, (hF5.mono (show 40 ≤ 41 by decide)).tf, (hF5.mono (show 40 ≤ 41 by decide)).tp, (hF5.mono (show 40 ≤ 41 by decide)).tw, (hF5.mono (show 40 ≤ 41 by decide)).qos, (hF5.mono (show 40 ≤ 41 by decide)).id, (hF5.mono (show 40 ≤ 41 by decide)).keep, (hF5.mono (show 40 ≤ 41 by decide)).wq, (hF5.mono (show 40 ≤ 41 by decide)).code⟩, hC5, K5⟩
  refine wp_seq_k (fun K23 hK23 => gx_region ?_)
  refine zb (rn_eqlN (i := m) (j := 4)) ?_; intro A F
  refine zd ?_; intro A F
  refine wpList_nil (hK23 _ _ ?_)
  refine zc (fun hb24 => ?_) (fun hb24 => ?_)
  ·skip
   refine gx_region ?_
   iterate 4 (refine zd ?_; intro A F)
   let P25 : Pk := { q5 with retain := !q5.retain }
   refine zs [] ((Pk.cells P25 s5)) ?_; intro W H9 hk
   replace K5 := K5.then hk (fun i9 hi9 e9 => by have e9 : i9 = b8 := e9; have := hN_K5_b8; omega)
   clear H hk; have H := H9; clear H9
   refine wpList_nil ?_
   exact hK9 _ _ ⟨P25, s5, ((((F.nil.cons (F.g 9 _ rfl)).cons (F.g 8 _ rfl)).cons (F.g 7 _ rfl)).cons (F.g 6 _ rfl)), H, ⟨hA5.hw, hA5.hf, hA5.hc, hA5.hp⟩, ⟨(hF5.mono (show 40 ≤ 41 by decide)).client, (hF5.mono (show 40 ≤ 41 by decide)).willTopic, (hF5.mono (show 40 ≤ 41 by decide)).willLoad, (hF5.mono (show 40 ≤ 41 by decide)).user, (hF5.mono (show 40 ≤ 41 by decide)).pass, (hF5.mono (show 40 ≤ 41 by decide)).topic, (hF5.mono (show 40 ≤ 41 by decide)).load, (hF5.mono (show 40 ≤ 41 by decide)).codes, (hF5.mono (show 40 ≤ 41 by decide)).nf, (hF5.mono (show 40 ≤ 41 by decide)).np, (hF5.mono (show 40 ≤ 41 by decide)).nw, (hF5.mono (show 40 ≤ 41 by decide)).tf, (hF5.mono (show 40 ≤ 41 by decide)).tp, (hF5.mono (show 40 ≤ 41 by decide)).tw, (hF5.mono (show 40 ≤ 41 by decide)).qos, (hF5.mono (show 40 ≤ 41 by decide)).id, (hF5.mono (show 40 ≤ 41 by decide)).keep, (hF5.mono (show 40 ≤ 41 by decide)).wq, (hF5.mono (show 40 ≤ 41 by decide)).code⟩, hC5, K5⟩
  refine wp_seq_k (fun K26 hK26 => gx_region ?_)
  refine zb (rn_eqlN (i := m) (j := 5)) ?_; intro A F
  refine zd ?_; intro A F
  refine wpList_nil (hK26 _ _ ?_)
  refine zc (fun hb27 => ?_) (fun hb27 => ?_)
  ·skip
   refine gx_region ?_
   iterate 4 (refine zd ?_; intro A F)
   let P28 : Pk := { q5 with clean := !q5.clean }
   refine zs [] ((Pk.cells P28 s5)) ?_; intro W H9 hk
   replace K5 := K5.then hk (fun i9 hi9 e9 => by have e9 : i9 = b8 := e9; have := hN_K5_b8; omega)
   clear H hk; have H := H9; clear H9
   refine wpList_nil ?_
   exact hK9 _ _ ⟨P28, s5, ((((F.nil.cons (F.g 9 _ rfl)).cons (F.g 8 _ rfl)).cons (F.g 7 _ rfl)).cons (F.g 6 _ rfl)), H, ⟨hA5.hw, hA5.hf, hA5.hc, hA5.hp⟩, ⟨(hF5.mono (show 40 ≤ 41 by decide)).client, (hF5.mono (show 40 ≤ 41 by decide)).willTopic, (hF5.mono (show 40 ≤ 41 by decide)).willLoad, (hF5.mono (show 40 ≤ 41 by decide)).user, (hF5.mono (show 40 ≤ 41 by decide)).pass, (hF5.mono (show 40 ≤ 41 by decide)).topic, (hF5.mono (show 40 ≤ 41 by decide)).load, (hF5.mono (show 40 ≤ 41 by decide)).codes, (hF5.mono (show 40 ≤ 41 by decide)).nf, (hF5.mono (show 40 ≤ 41 by decide)).np, (hF5.mono (show 40 ≤ 41 by decide)).nw, (hF5.mono (show 40 ≤ 41 by decide)).tf, (hF5.mono (show 40 ≤ 41 by decide)).tp, (hF5.mono (show 40 ≤ 41 by decide)).tw, (hF5.mono (show 40 ≤ 41 by decide)).qos, (hF5.mono (show 40 ≤ 41 by decide)).id, (hF5.mono (show 40 ≤ 41 by decide)).keep, (hF5.mono (show 40 ≤ 41 by decide)).wq, (hF5.mono (show 40 ≤ 41 by decide)).code⟩, hC5, K5⟩
  refine wp_seq_k (fun K29 hK29 => gx_region ?_)
  refine zb (rn_eqlN (i := m) (j := 6)) ?_; intro A F
  refine zd ?_; intro A F
  refine wpList_nil (hK29 _ _ ?_)
  refine zc (fun hb30 => ?_) (fun hb30 => ?_)
  ·skip
   replace F := (((((F.nil.cons (F.g 22 _ rfl)).cons (F.g 9 _ rfl)).cons (F.g 8 _ rfl)).cons (F.g 7 _ rfl)).cons (F.g 6 _ rfl))
   refine gx_region ?_
   iterate 2 (refine zd ?_; intro A F)
   refine hz_do F rfl (ex_bin rfl (F.e rfl) gx_evc (rn_sadd hF5.willTopic (by decide))) ?_; intro A F
   refine zd ?_; intro A F
   let P31 : Pk := { q5 with willTopic := (q5.willTopic ++ ⟨#[97]⟩) }
   refine zs [] ((Pk.cells P31 s5)) ?_; intro W H9 hk
   replace K5 := K5.then hk (fun i9 hi9 e9 => by have e9 : i9 = b8 := e9; have := hN_K5_b8; omega)
   clear H hk; have H := H9; clear H9
   refine wpList_nil ?_
   exact hK9 _ _ ⟨P31, s5, ((((F.nil.cons (F.g 9 _ rfl)).cons (F.g 8 _ rfl)).cons (F.g 7 _ rfl)).cons (F.g 6 _ rfl)), H, ⟨hA5.hw, hA5.hf, hA5.hc, hA5.hp⟩, ⟨(hF5.mono (show 40 ≤ 41 by decide)).client, (sz_add hF5.willTopic (by decide)), (hF5.mono (show 40 ≤ 41 by decide)).willLoad, (hF5.mono (show 40 ≤ 41 by decide)).user, (hF5.mono (show 40 ≤ 41 by decide)).pass, (hF5.mono (show 40 ≤ 41 by decide)).topic, (hF5.mono (show 40 ≤ 41 by decide)).load, (hF5.mono (show 40 ≤ 41 by decide)).codes, (hF5.mono (show 40 ≤ 41 by decide)).nf, (hF5.mono (show 40 ≤ 41 by decide)).np, (hF5.mono (show 40 ≤ 41 by decide)).nw, (hF5.mono (show 40 ≤ 41 by decide)).tf, (hF5.mono (show 40 ≤ 41 by decide)).tp, (hF5.mono (show 40 ≤ 41 by decide)).tw, (hF5.mono (show 40 ≤ 41 by decide)).qos, (hF5.mono (show 40 ≤ 41 by decide)).id, (hF5.mono (show 40 ≤ 41 by decide)).keep, (hF5.mono (show 40 ≤ 41 by decide)).wq, (hF5.mono (show 40 ≤ 41 by decide)).code⟩, hC5, K5⟩
  replace F := (((((F.nil.cons (F.g 22 _ rfl)).cons (F.g 9 _ rfl)).cons (F.g 8 _ rfl)).cons (F.g 7 _ rfl)).cons (F.g 6 _ rfl))
  refine wp_seq_k (fun K32 hK32 => gx_region ?_)
  refine zb (rn_eqlN (i := m) (j := 7)) ?_; intro A F
  refine zd ?_; intro A F
  refine wpList_nil (hK32 _ _ ?_)
  refine zc (fun hb33 => ?_) (fun hb33 => ?_)
  ·skip
   refine gx_region ?_
   iterate 2 (refine zd ?_; intro A F)
   refine hz_do F rfl (ex_bin rfl (F.e rfl) gx_evc (rn_sadd hF5.user (by decide))) ?_; intro A F
   refine zd ?_; intro A F
   let P34 : Pk := { q5 with user := (q5.user ++ ⟨#[97]⟩) }
   refine zs [] ((Pk.cells P34 s5)) ?_; intro W H9 hk
   replace K5 := K5.then hk (fun i9 hi9 e9 => by have e9 : i9 = b8 := e9; have := hN_K5_b8; omega)
   clear H hk; have H := H9; clear H9
   refine wpList_nil ?_
   exact hK9 _ _ ⟨P34, s5, ((((F.nil.cons (F.g 9 _ rfl)).cons (F.g 8 _ rfl)).cons (F.g 7 _ rfl)).cons (F.g 6 _ rfl)), H, ⟨hA5.hw, hA5.hf, hA5.hc, hA5.hp⟩, ⟨(hF5.mono (show 40 ≤ 41 by decide)).client, (hF5.mono (show 40 ≤ 41 by decide)).willTopic, (hF5.mono (show 40 ≤ 41 by decide)).willLoad, (sz_add hF5.user (by decide)), (hF5.mono (show 40 ≤ 41 by decide)).pass, (hF5.mono (show 40 ≤ 41 by decide)).topic, (hF5.mono (show 40 ≤ 41 by decide)).load, (hF5.mono (show 40 ≤ 41 by decide)).codes, (hF5.mono (show 40 ≤ 41 by decide)).nf, (hF5.mono (show 40 ≤ 41 by decide)).np, (hF5.mono (show 40 ≤ 41 by decide)).nw, (hF5.mono (show 40 ≤ 41 by decide)).tf, (hF5.mono (show 40 ≤ 41 by decide)).tp, (hF5.mono (show 40 ≤ 41 by decide)).tw, (hF5.mono (show 40 ≤ 41 by decide)).qos, (hF5.mono (show 40 ≤ 41 by decide)).id, (hF5.mono (show 40 ≤ 41 by decide)).keep, (hF5.mono (show 40 ≤ 41 by decide)).wq, (hF5.mono (show 40 ≤ 41 by decide)).code⟩, hC5, K5⟩
  refine wp_skip ?_
  exact hK9 _ _ ⟨q5, s5, ((((F.nil.cons (F.g 9 _ rfl)).cons (F.g 8 _ rfl)).cons (F.g 7 _ rfl)).cons (F.g 6 _ rfl)), H, ⟨hA5.hw, hA5.hf, hA5.hc, hA5.hp⟩, ⟨(hF5.mono (show 40 ≤ 41 by decide)).client, (hF5.mono (show 40 ≤ 41 by decide)).willTopic, (hF5.mono (show 40 ≤ 41 by decide)).willLoad, (hF5.mono (show 40 ≤ 41 by decide)).user, (hF5.mono (show 40 ≤ 41 by decide)).pass, (hF5.mono (show 40 ≤ 41 by decide)).topic, (hF5.mono (show 40 ≤ 41 by decide)).load, (hF5.mono (show 40 ≤ 41 by decide)).codes, (hF5.mono (show 40 ≤ 41 by decide)).nf, (hF5.mono (show 40 ≤ 41 by decide)).np, (hF5.mono (show 40 ≤ 41 by decide)).nw, (hF5.mono (show 40 ≤ 41 by decide)).tf, (hF5.mono (show 40 ≤ 41 by decide)).tp, (hF5.mono (show 40 ≤ 41 by decide)).tw, (hF5.mono (show 40 ≤ 41 by decide)).qos, (hF5.mono (show 40 ≤ 41 by decide)).id, (hF5.mono (show 40 ≤ 41 by decide)).keep, (hF5.mono (show 40 ≤ 41 by decide)).wq, (hF5.mono (show 40 ≤ 41 by decide)).code⟩, hC5, K5⟩
 clear F H; obtain ⟨x, sx, F, H, hAx, hFx, hCx, K5⟩ := hM
 refine wp_seq_k (fun K35 hK35 => ?_)
 refine wp_region_held_drew (S := fun wx => Hp _ wx _) (by kernel_rfl) H.drew (fun H9 => ?_); clear H; have H := H9; clear H9
 replace K5 := K5.trans (Kept.refl No _).drew
 generalize World.drew _ = W at *
 refine hb_one (i := 0) (by kernel_rfl) (hb_callk (i := 0) F rfl rfl (ex_call rfl rfl gx_l0 fn_16) (told7_any _ (hT.kept H.k) (hN.kept H.k)) (fun _ hk => (H.kept hk)) ?_); clear F A; intro W A hk _ F; replace H := H.kept hk
 replace K5 := K5.trans hk
 clear hk
 refine td 1 ?_; intro A F
 refine hzh_do1 (i := 2) F rfl rfl (by kernel_rfl) (fun _ _ _ h => h) (H) (hw_t F rfl rfl rfl) (fun wz H => (ex_move rfl (F.e rfl))) ?_; intro A F
 refine hzh_do1 (i := 3) F rfl rfl (by kernel_rfl) (fun _ _ _ h => h) (H) (hw_t F rfl rfl rfl) (fun wz H => (ex_load rfl (F.e rfl) (gl_agg ((Pk.cells q5 s5)) rfl (ga_28 _) (gs_28 _) (fun i => H.cs 1 rfl i)))) ?_; intro A F
 refine hzh_call1 (i := 4) (R := fun vv ww => ∃ s9, vv = Pk.val q5 s9 ∧ Pk.At q5 s9 ww ∧ (s9.ca = none → (Pk.codes q5).length = 0 ∧ s9.cc = 0)) F rfl rfl (by kernel_rfl) (hw_t F rfl rfl rfl) (ex_call rfl rfl (gx_l1 (F.e rfl) gx_l0) fn_18) ((pkto2_any q5 s5 _ (hA5.kept K5) (hF5.fit (by decide)).few hC5).mono fun e9 ww ⟨s9, h91, h92, h93, h94⟩ => ⟨_, h91, ⟨s9, rfl, h92, h94⟩, h93⟩) (fun _ hk => H.kept hk) ?_; clear F H A; intro vv W A hR hk H F; obtain ⟨t37, rfl, hA37, hC37⟩ := hR
 replace K5 := K5.trans hk
 clear hk
 obtain ⟨w37, K37, hA37⟩ : ∃ w1, Kept No w1 W ∧ Pk.At q5 t37 w1 := ⟨W, Kept.refl No W, hA37⟩
 refine hzh_callk1 (i := 5) F rfl rfl (by kernel_rfl) (hw_t F rfl rfl rfl) (ex_call rfl rfl (gx_l1 (F.e rfl) (gx_l1 (F.e rfl) gx_l0)) fn_17) (pkRight_any (4 + ((k : Int))) q5 t37 _ (hA37.kept K37) (hF5.fit (by decide)) (hT.kept H.k)) (fun _ hk => H.kept hk) ?_; clear F H A; intro W A hk H F
 replace K5 := K5.trans hk
 replace K37 := K37.trans hk
 clear hk
 have hr39 : (rightP (4 + ((k : Int))) q5) = true := (by rw [right_eq (4 + ((k : Int))) q5 (hF5.fit (by decide)).opt (restN_small (hF5.small (by decide)))]; exact hR5)
 replace F := F.hd (congrArg Value.bool hr39)
 refine hzh_do (i := 6) F rfl rfl (by kernel_rfl) (fun _ _ _ h => h) (H) (fun wz H => (ex_pickT rfl (F.e rfl) (F.e rfl))) ?_; intro A F
 refine td 7 ?_; intro A F
 refine hzh_do1 (i := 8) F rfl rfl (by kernel_rfl) (fun _ _ _ h => h) (H) (hw_t F rfl rfl rfl) (fun wz H => (ex_move rfl (F.e rfl))) ?_; intro A F
 refine hzh_do1 (i := 9) F rfl rfl (by kernel_rfl) (fun _ _ _ h => h) (H) (hw_t F rfl rfl rfl) (fun wz H => (ex_load rfl (F.e rfl) (gl_agg ((Pk.cells x sx)) rfl (ga_28 _) (gs_28 _) (fun i => H.cs 0 rfl i)))) ?_; intro A F
 refine hzh_do1 (i := 12) F rfl rfl (by kernel_rfl) (fun _ _ _ h => h) (H) (hw_t F rfl rfl rfl) (fun wz H => (ex_move rfl (F.e rfl))) ?_; intro A F
 refine hzh_do1 (i := 13) F rfl rfl (by kernel_rfl) (fun _ _ _ h => h) (H) (hw_t F rfl rfl rfl) (fun wz H => (ex_load rfl (F.e rfl) (gl_agg ((Pk.cells x sx)) rfl (ga_28 _) (gs_28 _) (fun i => H.cs 0 rfl i)))) ?_; intro A F
 refine hzh_call1 (i := 10) (R := fun vv ww => ∃ s9, vv = Pk.val x s9 ∧ Pk.At x s9 ww ∧ (s9.ca = none → (Pk.codes x).length = 0 ∧ s9.cc = 0)) F rfl rfl (by kernel_rfl) (hw_t F rfl rfl rfl) (ex_call rfl rfl (gx_l1 (F.e rfl) gx_l0) fn_18) ((pkto2_any x sx _ (hAx.kept K5) (hFx.fit (by decide)).few hCx).mono fun e9 ww ⟨s9, h91, h92, h93, h94⟩ => ⟨_, h91, ⟨s9, rfl, h92, h94⟩, h93⟩) (fun _ hk => H.kept hk) ?_; clear F H A; intro vv W A hR hk H F; obtain ⟨t40, rfl, hA40, hC40⟩ := hR
 replace K5 := K5.trans hk
 replace K37 := K37.trans hk
 clear hk
 obtain ⟨w40, K40, hA40⟩ : ∃ w1, Kept No w1 W ∧ Pk.At x t40 w1 := ⟨W, Kept.refl No W, hA40⟩
 refine hzh_callk1 (i := 11) F rfl rfl (by kernel_rfl) (hw_t F rfl rfl rfl) (ex_call rfl rfl (gx_l1 (F.e rfl) (gx_l1 (F.e rfl) gx_l0)) fn_17) (pkRight_any (4 + ((k : Int))) x t40 _ (hA40.kept K40) (hFx.fit (by decide)) (hT.kept H.k)) (fun _ hk => H.kept hk) ?_; clear F H A; intro W A hk H F
 replace K5 := K5.trans hk
 replace K37 := K37.trans hk
 replace K40 := K40.trans hk
 clear hk
 refine hzh_callk1 (i := 14) F rfl rfl (by kernel_rfl) (hw_t F rfl rfl rfl) (ex_call rfl rfl (gx_l1 (F.e rfl) (gx_l1 (F.e rfl) gx_l0)) fn_20) (rpkRight_any (4 + ((k : Int))) x sx _ (hAx.kept K5) (hFx.fit (by decide)) hCx) (fun _ hk => H.kept hk) ?_; clear F H A; intro W A hk H F
 replace K5 := K5.trans hk
 replace K37 := K37.trans hk
 replace K40 := K40.trans hk
 clear hk
 refine hzh_do1 (i := 15) F rfl rfl (by kernel_rfl) (fun _ _ _ h => h) (H) (hw_t F rfl rfl rfl) (fun wz H => (ex_bin rfl (F.e rfl) (F.e rfl) (rn_beql Tryz.underlying4))) ?_; intro A F
 have hr43 : ((rightP (4 + ((k : Int))) x) == (rightD (4 + ((k : Int))) x)) = true := (by rw [right_eq (4 + ((k : Int))) x (hFx.fit (by decide)).opt (restN_small (hFx.small (by decide)))]; simp)
 replace F := F.hd (congrArg Value.bool hr43)
 refine hzh_do (i := 16) F rfl rfl (by kernel_rfl) (fun _ _ _ h => h) (H) (fun wz H => (ex_pickT rfl (F.e rfl) (F.e rfl))) ?_; intro A F
 refine td 17 ?_; intro A F
 refine hzh_do1 (i := 18) F rfl rfl (by kernel_rfl) (fun _ _ _ h => h) (H) (hw_t F rfl rfl rfl) (fun wz H => (ex_load rfl (F.e rfl) (gl_agg ((Pk.cells x sx)) rfl (ga_28 _) (gs_28 _) (fun i => H.cs 0 rfl i)))) ?_; intro A F
 refine hzh_do1 (i := 20) F rfl rfl (by kernel_rfl) (fun _ _ _ h => h) (H) (hw_t F rfl rfl rfl) (fun wz H => (ex_load rfl (F.e rfl) (gl_agg ((Pk.cells x sx)) rfl (ga_28 _) (gs_28 _) (fun i => H.cs 0 rfl i)))) ?_; intro A F
 refine hzh_callk1 (i := 19) F rfl rfl (by kernel_rfl) (hw_t F rfl rfl rfl) (ex_call rfl rfl (gx_l1 (F.e rfl) gx_l0) fn_22) (rbare_any x sx _ (hAx.kept K5)) (fun _ hk => H.kept hk) ?_; clear F H A; intro W A hk H F
 replace K5 := K5.trans hk
 replace K37 := K37.trans hk
 replace K40 := K40.trans hk
 clear hk
 refine hzh_callk1 (i := 21) F rfl rfl (by kernel_rfl) (hw_t F rfl rfl rfl) (ex_call rfl rfl (gx_l1 (F.e rfl) (gx_l1 (F.e rfl) gx_l0)) fn_21) (rpksame2_any (bareP x) x (ownSl x sx) sx _ (ownSl_at (hAx.kept K5)) (hAx.kept K5) (bare_few (hFx.fit (by decide)).few) (hFx.fit (by decide)).few ⟨fun h => ownSl_codes hCx h⟩ ⟨fun h => (hCx h).2⟩) (fun _ hk => H.kept hk) ?_; clear F H A; intro W A hk H F
 replace K5 := K5.trans hk
 replace K37 := K37.trans hk
 replace K40 := K40.trans hk
 clear hk
 rcases Bool.eq_false_or_eq_true (decide (bareP x = x)) with hb46 | hb46
 ·replace F := F.hd (congrArg Value.bool hb46)
  refine hzh_do1 (i := 22) F rfl rfl (by kernel_rfl) (fun _ _ _ h => h) (H) (hw_t F rfl rfl rfl) (fun wz H => (ex_move rfl (F.e rfl))) ?_; intro A F
  refine hzh_no (i := 23) F rfl rfl (by kernel_rfl) (fun _ _ _ h => h) (H) (hw_f (X := true) F rfl rfl rfl) ?_; intro A F
  refine hzh_no (i := 24) F rfl rfl (by kernel_rfl) (fun _ _ _ h => h) (H) (hw_f (X := true) F rfl rfl rfl) ?_; intro A F
  refine hzh_no (i := 25) F rfl rfl (by kernel_rfl) (fun _ _ _ h => h) (H) (hw_f (X := true) F rfl rfl rfl) ?_; intro A F
  refine hzh_no (i := 26) F rfl rfl (by kernel_rfl) (fun _ _ _ h => h) (H) (hw_f (X := true) F rfl rfl rfl) ?_; intro A F
  refine hzh_no (i := 27) F rfl rfl (by kernel_rfl) (fun _ _ _ h => h) (H) (hw_f (X := true) F rfl rfl rfl) ?_; intro A F
  refine hzh_do1 (i := 28) F rfl rfl (by kernel_rfl) (fun _ _ _ h => h) (H) (hw_t F rfl rfl rfl) (fun wz H => (ex_pickT rfl (F.e rfl) gx_evc)) ?_; intro A F
  refine hzh_do (i := 29) F rfl rfl (by kernel_rfl) (fun _ _ _ h => h) (H) (fun wz H => (ex_pickT rfl (F.e rfl) (F.e rfl))) ?_; intro A F
  refine td 30 ?_; intro A F
  refine wpAnyH_done (by kernel_rfl) ?_ _
  refine hK35 _ _ ?_
  refine gx_ret ?_
  refine (show bodyPost _ Tryz.f4 RR Exit.ret _ _ from zr ?_)
  exact ⟨by first | rfl | simp, H.k.below (Nat.le_refl _) (fun _ _ f9 => f9)⟩
 replace F := F.hd (congrArg Value.bool hb46)
 refine hzh_do1 (i := 22) F rfl rfl (by kernel_rfl) (fun _ _ _ h => h) (H) (hw_t F rfl rfl rfl) (fun wz H => (ex_move rfl (F.e rfl))) ?_; intro A F
 refine hzh_do1 (i := 23) F rfl rfl (by kernel_rfl) (fun _ _ _ h => h) (H) (hw_f (X := false) F rfl rfl rfl) (fun wz H => (ex_move rfl (F.e rfl))) ?_; intro A F
 refine hzh_do1 (i := 24) F rfl rfl (by kernel_rfl) (fun _ _ _ h => h) (H) (hw_f (X := false) F rfl rfl rfl) (fun wz H => (ex_load rfl (F.e rfl) (gl_agg ((Pk.cells x sx)) rfl (ga_28 _) (gs_28 _) (fun i => H.cs 0 rfl i)))) ?_; intro A F
 refine hzh_call1 (i := 25) (R := fun vv ww => ∃ s9, vv = Pk.val x s9 ∧ Pk.At x s9 ww ∧ (s9.ca = none → (Pk.codes x).length = 0 ∧ s9.cc = 0)) F rfl rfl (by kernel_rfl) (hw_f (X := false) F rfl rfl rfl) (ex_call rfl rfl (gx_l1 (F.e rfl) gx_l0) fn_18) ((pkto2_any x sx _ (hAx.kept K5) (hFx.fit (by decide)).few hCx).mono fun e9 ww ⟨s9, h91, h92, h93, h94⟩ => ⟨_, h91, ⟨s9, rfl, h92, h94⟩, h93⟩) (fun _ hk => H.kept hk) ?_; clear F H A; intro vv W A hR hk H F; obtain ⟨t47, rfl, hA47, hC47⟩ := hR
 replace K5 := K5.trans hk
 replace K37 := K37.trans hk
 replace K40 := K40.trans hk
 clear hk
 obtain ⟨w47, K47, hA47⟩ : ∃ w1, Kept No w1 W ∧ Pk.At x t47 w1 := ⟨W, Kept.refl No W, hA47⟩
 refine hzh_callk1 (i := 26) F rfl rfl (by kernel_rfl) (hw_f (X := false) F rfl rfl rfl) (ex_call rfl rfl (gx_l1 (F.e rfl) (gx_l1 (F.e rfl) gx_l0)) fn_17) (pkRight_any (4 + ((k : Int))) x t47 _ (hA47.kept K47) (hFx.fit (by decide)) (hT.kept H.k)) (fun _ hk => H.kept hk) ?_; clear F H A; intro W A hk H F
 replace K5 := K5.trans hk
 replace K37 := K37.trans hk
 replace K40 := K40.trans hk
 replace K47 := K47.trans hk
 clear hk
 have hr49 : (rightP (4 + ((k : Int))) x) = false := (rightP_bare hb46)
 replace F := F.hd (congrArg Value.bool hr49)
 refine hzh_do1 (i := 27) F rfl rfl (by kernel_rfl) (fun _ _ _ h => h) (H) (hw_f (X := false) F rfl rfl rfl) (fun wz H => (ex_not rfl (F.e rfl))) ?_; intro A F
 refine hzh_do1 (i := 28) F rfl rfl (by kernel_rfl) (fun _ _ _ h => h) (H) (hw_t F rfl rfl rfl) (fun wz H => (ex_pickF rfl (F.e rfl) (F.e rfl))) ?_; intro A F
 refine hzh_do (i := 29) F rfl rfl (by kernel_rfl) (fun _ _ _ h => h) (H) (fun wz H => (ex_pickT rfl (F.e rfl) (F.e rfl))) ?_; intro A F
 refine td 30 ?_; intro A F
 refine wpAnyH_done (by kernel_rfl) ?_ _
 refine hK35 _ _ ?_
 refine gx_ret ?_
 refine (show bodyPost _ Tryz.f4 RR Exit.ret _ _ from zr ?_)
 exact ⟨by first | rfl | simp, H.k.below (Nat.le_refl _) (fun _ _ f9 => f9)⟩
theorem packetBares_full (a : Int) (p : Pk) (s : Sl) (t : Int) (w : World) (wa : (Lit.int .i64 a).wf = true) (w1 : IsPk w p s) (r1 : Reach p) (wt : (Lit.int .i64 t).wf = true) (hT : Tabs w) (hN : NamesAt w) :
  Calls Tryz.prog 4 #[.int .i64 a, p.val s, .int .i64 t] w fun e w' => e = .returned (.bool true) ∧ Below w.heap.size w w' :=
 packetBares_walk a p s t w w1.at (w1.any r1) hT hN
end Go.Proofs.YtddolflgnfhfmaaGreatDoor
