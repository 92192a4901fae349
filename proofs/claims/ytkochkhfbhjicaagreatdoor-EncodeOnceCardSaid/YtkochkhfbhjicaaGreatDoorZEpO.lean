/-
  EncodeOnce's walk.
-/
import Derived.Test.YtkochkhfbhjicaaGreatDoorZEpP
import Derived.Test.YtkochkhfbhjicaaGreatDoorYFV
namespace Go.Proofs.YtkochkhfbhjicaaGreatDoor
open Go.RowKit
set_option linter.unusedVariables false
set_option linter.unusedSimpArgs false
set_option maxRecDepth 100000

theorem fn_4:FN Tryz.prog 4:=jr Tryz.func4 (by kernel_rfl) rfl
theorem fn_6:FN Tryz.prog 6:=jr Tryz.func6 (by kernel_rfl) rfl
theorem fn_7:FN Tryz.prog 7:=jr Tryz.func7 (by kernel_rfl) rfl
theorem fn_8:FN Tryz.prog 8:=jr Tryz.func8 (by kernel_rfl) rfl
theorem nuPk (p : Pk) (s : Sl) : NoU (Pk.cells p s) := by
  intro i n
  unfold Pk.cells
  rcases i with _ | _ | _ | _ | _ | _ | _ | _ | _ | _ | _ | _ | _ | _ | _ | _ | _ | _ | _ | _ | _ | _ | _ | _ | _ | i <;> simp
section
variable {P : Program} {ops : Array Oper} {Q : Exit → Act → World → Prop} {a : Act} {w w0 : World} {rest : List Oper} {N n : Nat} {L : List (Nat × Value)} {v : Value} {ty : TypeId} {ps : String} {af : Array Edge} {op : Op} {gd : Nat × Bool} {G X Y : Bool}
variable {md : Region.Mode} {S : World → Prop} {fuel : Nat} {listed : Array Bool} {i : Nat}
theorem hzh_no (F : Fr a N L) (hn : Nat.blt n N = true) (hi : ops[i]? = some ⟨some n, op, ty, ps, af, some gd⟩) (hr : (Region.noSelect ops && (Region.free md ops listed i && (Region.ready md ops listed).contains i)) = true)
    (hQ : ∀ c a w, Q (.panic c) (a.put (some n) undef) w → Q (.panic c) a w) (hS : S w) (hw : Region.wanted ⟨some n, op, ty, ps, af, some gd⟩ (yielded ops a.tmps) = false)
    (k : ∀ a' : Act, Fr a' N ((n, undef) :: L) → wpAnyH P md ops Q S fuel (listed.setIfInBounds i true) a' w) : wpAnyH P md ops Q S (fuel + 1) listed a w := by
  obtain ⟨h1, h2, h3⟩ := j5x hr
  exact wpAnyH_take (v := undef) hi h1 h2 h3 hQ (Or.inr ⟨hw, rfl⟩) hS (k _ (F.put hn undef))
end
set_option maxHeartbeats 8000000 in
theorem encodeOnce_walk (v : Int) (p : Pk) (s : Sl) (p2 : Pk) (s2 : Sl) (w : World) (hp : p.At s w) (hp2 : p2.At s2 w) (hY : Any p) (hY2 : Any p2) (hT : Tabs w) :
    Calls Tryz.prog 3 #[.int .i64 v, p.val s, p2.val s2] w fun e w' => e = .returned (.bool true) ∧ Below w.heap.size w w' := by
  obtain ⟨k, hkm, hk⟩ := j64 v 2 (by decide) (by decide)
  let RR : Ending → World → Prop := fun e w' => e = .returned (.bool true) ∧ Below w.heap.size w w'
  go_enter Tryz.func3, Tryz.ntmps3
  generalize hA : ({ tmps := _, defers := [] } : Act) = A
  have F : Fr A 73 [(2, (Pk.val p2 s2)), (1, (Pk.val p s)), (0, (.int .i64 v))] := by rw [← hA]; exact (Fr.cons (i := 2) (v := (Pk.val p2 s2)) (Fr.cons (i := 1) (v := (Pk.val p s)) (Fr.cons (i := 0) (v := (.int .i64 v)) (Fr.nil0 rfl rfl) rfl) rfl) rfl)
  clear hA; have H := Hp.start w
  refine wp_seq_k (fun K1 hK1 => jB ?_)
  refine jj (c := (Pk.cells p s)) (t := 27) F H rfl (qW rfl (F.e rfl) (qX _ _)) ?_; clear F A; intro b2 W A hk hN H9 F; clear H; have H := H9; clear H9
  clear hk hN
  refine jj (c := (Pk.cells p2 s2)) (t := 27) F H rfl (qW rfl (F.e rfl) (qX _ _)) ?_; clear F A; intro b3 W A hk hN H9 F; clear H; have H := H9; clear H9
  clear hk hN
  refine zd ?_; clear F A; intro A F
  refine wpList_nil (hK1 _ _ ?_)
  refine wp_seq_k (fun K4 hK4 => jB ?_)
  refine zd ?_; clear F A; intro A F
  refine j7 F rfl (vZ rfl (F.e rfl) (j5f _ _)) ?_; clear F A; intro A F
  refine zb (j95 (by decide) hkm) ?_; clear F A; intro A F
  refine j7 F rfl (vZ rfl (F.e rfl) (jB6 _ _ (by omega))) ?_; clear F A; intro A F
  refine j7 F rfl (jF rfl jD (F.e rfl) (jd (jK (by omega) (by omega)))) ?_; clear F A; intro A F
  refine zd ?_; clear F A; intro A F
  refine wpList_nil (hK4 _ _ ?_)
  refine v8 (fun A W => ∃ q94 : Pk, ∃ s94 : Sl, ∃ q95 : Pk, ∃ s95 : Sl, Fr A 73 [(4, (.pointer (some ⟨b2, 0, none⟩))), (5, (.pointer (some ⟨b3, 0, none⟩))), (6, (.bool false)), (7, (.int .i64 (4 + ((k : Int)))))] ∧ Hp w W [⟨b3, 27, (Pk.cells q95 s95)⟩, ⟨b2, 27, (Pk.cells q94 s94)⟩] ∧ (Pk.At q94 s94 W) ∧ (Fx9 (4 + ((k : Int))) q94) ∧ ((s94.ca = none → q94.codes.length = 0 ∧ s94.cc = 0)) ∧ (Pk.At q95 s95 W) ∧ (Fx9 (4 + ((k : Int))) q95) ∧ ((s95.ca = none → q95.codes.length = 0 ∧ s95.cc = 0))) (fun A W hM => ?_) (fun K5 hK5 => ?_)
  rotate_left
  · skip
    refine wp_region_held_drew (S := fun wx => ∃ c8 c9, Hp _ wx [⟨b3, 27, c8⟩, ⟨b2, 27, c9⟩]) (by kernel_rfl) ⟨_, _, H.drew⟩ (fun H9 => ?_); clear H9; replace H := H.drew
    generalize World.drew _ = W at *
    refine jG (v := (.int .i64 (4 + ((k : Int))))) (i := 0) F rfl rfl (by kernel_rfl) (fun _ _ _ h => h) (⟨_, _, H⟩) (fun wz ⟨c9, H⟩ => (xA rfl (F.e rfl))) ?_; clear F A; intro A F
    refine jG (v := (.int .i64 (4 + ((k : Int))))) (i := 3) F rfl rfl (by kernel_rfl) (fun _ _ _ h => h) (⟨_, _, H⟩) (fun wz ⟨c9, H⟩ => (xA rfl (F.e rfl))) ?_; clear F A; intro A F
    refine vu (i := 1) (j := 4) (by kernel_rfl) ?_ ?_
    · skip
      refine qO (v := (Pk.val p s)) (i := 1) F rfl rfl (jA rfl (F.e rfl) (jE ((Pk.cells p s)) rfl (qR _) (jg _) (fun i => H.cs 1 rfl i))) (⟨_, _, H⟩) ?_; clear F A; intro A F
      refine vu (i := 2) (j := 4) (by kernel_rfl) ?_ ?_
      · skip
        obtain ⟨B6, hB6⟩ : ∃ n, n = W.heap.size := ⟨_, rfl⟩
        have hl_6_b3 : b3 < B6 := by rw [hB6]; exact (Array.getElem?_eq_some_iff.1 (H.b.at_ (j := 0) rfl).1).1
        have hl_6_b2 : b2 < B6 := by rw [hB6]; exact (Array.getElem?_eq_some_iff.1 (H.b.at_ (j := 1) rfl).1).1
        refine vO (i := 2) (R := Fix9R (4 + ((k : Int))) B6) F rfl rfl (j6 rfl rfl (j0 (F.e rfl) (j0 (F.e rfl) j9)) fn_4) (fix9_full (4 + ((k : Int))) p s _ B6 hB6 (by omega) (hp.kept H.k) hY) (fun _ hk => ⟨_, _, (H.kept hk)⟩) ?_; clear F A; intro vv W A hR hk _ F; replace H := H.kept hk; obtain ⟨q6, s6, rfl, hA6, hX6⟩ := hR
        clear hk
        refine jO (i := 4) (by kernel_rfl) (qO (v := (Pk.val p2 s2)) (i := 4) F rfl rfl (jA rfl (F.e rfl) (jE ((Pk.cells p2 s2)) rfl (qR _) (jg _) (fun i => H.cs 0 rfl i))) (⟨_, _, H⟩) ?_); clear F A; intro A F
        obtain ⟨B7, hB7⟩ : ∃ n, n = W.heap.size := ⟨_, rfl⟩
        have hl_7_b3 : b3 < B7 := by rw [hB7]; exact (Array.getElem?_eq_some_iff.1 (H.b.at_ (j := 0) rfl).1).1
        have hl_7_b2 : b2 < B7 := by rw [hB7]; exact (Array.getElem?_eq_some_iff.1 (H.b.at_ (j := 1) rfl).1).1
        refine jO (i := 5) (by kernel_rfl) (vO (i := 5) (R := Fix9R (4 + ((k : Int))) B7) F rfl rfl (j6 rfl rfl (j0 (F.e rfl) (j0 (F.e rfl) j9)) fn_4) (fix9_full (4 + ((k : Int))) p2 s2 _ B7 hB7 (by omega) (hp2.kept H.k) hY2) (fun _ hk => ⟨_, _, (H.kept hk)⟩) ?_); clear F A; intro vv W A hR hk _ F; replace H := H.kept hk; obtain ⟨q7, s7, rfl, hA7, hX7⟩ := hR
        replace hA6 := (Aw.no hA6 hk)
        clear hk
        obtain ⟨W9, hr, hB, hk⟩ := jC (P := Tryz.prog) (S := 27) (c := (Pk.cells q6 s6)) _ (H.b.at_ (j := 1) rfl).1 (jg _) rfl (ja _ _)
        replace hA6 := Aw.st hA6 hk (H.b.at_ (j := 1) rfl).1 (nuPk _ _) hl_6_b2
        replace hA7 := Aw.st hA7 hk (H.b.at_ (j := 1) rfl).1 (nuPk _ _) hl_7_b2
        replace H : Hp _ _ [_, _] := Hp.turn [_] H hk hB; clear hk hB
        refine jO (i := 6) (by kernel_rfl) (zF (i := 6) rfl (jJ rfl (F.e rfl) (F.e rfl) hr) (⟨_, _, H⟩) ?_); clear hr
        obtain ⟨W9, hr, hB, hk⟩ := jC (P := Tryz.prog) (S := 27) (c := (Pk.cells q7 s7)) _ (H.b.at_ (j := 0) rfl).1 (jg _) rfl (ja _ _)
        replace hA6 := Aw.st hA6 hk (H.b.at_ (j := 0) rfl).1 (nuPk _ _) hl_6_b3
        replace hA7 := Aw.st hA7 hk (H.b.at_ (j := 0) rfl).1 (nuPk _ _) hl_7_b3
        replace H : Hp _ _ [_, _] := Hp.turn [] H hk hB; clear hk hB
        refine jO (i := 7) (by kernel_rfl) (zF (i := 7) rfl (jJ rfl (F.e rfl) (F.e rfl) hr) (⟨_, _, H⟩) ?_); clear hr
        refine wpAnyH_done (by kernel_rfl) ?_ _
        exact hK5 _ _ ⟨q6, s6, q7, s7, ((((F.nil.cons (F.g 7 _ rfl)).cons (F.g 6 _ rfl)).cons (F.g 5 _ rfl)).cons (F.g 4 _ rfl)), H, hA6.at_, hX6, hA6.sc, hA7.at_, hX7, hA7.sc⟩
      · skip
        refine qO (v := (Pk.val p2 s2)) (i := 4) F rfl rfl (jA rfl (F.e rfl) (jE ((Pk.cells p2 s2)) rfl (qR _) (jg _) (fun i => H.cs 0 rfl i))) (⟨_, _, H⟩) ?_; clear F A; intro A F
        obtain ⟨B8, hB8⟩ : ∃ n, n = W.heap.size := ⟨_, rfl⟩
        have hl_8_b3 : b3 < B8 := by rw [hB8]; exact (Array.getElem?_eq_some_iff.1 (H.b.at_ (j := 0) rfl).1).1
        have hl_8_b2 : b2 < B8 := by rw [hB8]; exact (Array.getElem?_eq_some_iff.1 (H.b.at_ (j := 1) rfl).1).1
        refine jO (i := 2) (by kernel_rfl) (vO (i := 2) (R := Fix9R (4 + ((k : Int))) B8) F rfl rfl (j6 rfl rfl (j0 (F.e rfl) (j0 (F.e rfl) j9)) fn_4) (fix9_full (4 + ((k : Int))) p s _ B8 hB8 (by omega) (hp.kept H.k) hY) (fun _ hk => ⟨_, _, (H.kept hk)⟩) ?_); clear F A; intro vv W A hR hk _ F; replace H := H.kept hk; obtain ⟨q8, s8, rfl, hA8, hX8⟩ := hR
        clear hk
        obtain ⟨B9, hB9⟩ : ∃ n, n = W.heap.size := ⟨_, rfl⟩
        have hl_9_b3 : b3 < B9 := by rw [hB9]; exact (Array.getElem?_eq_some_iff.1 (H.b.at_ (j := 0) rfl).1).1
        have hl_9_b2 : b2 < B9 := by rw [hB9]; exact (Array.getElem?_eq_some_iff.1 (H.b.at_ (j := 1) rfl).1).1
        refine jO (i := 5) (by kernel_rfl) (vO (i := 5) (R := Fix9R (4 + ((k : Int))) B9) F rfl rfl (j6 rfl rfl (j0 (F.e rfl) (j0 (F.e rfl) j9)) fn_4) (fix9_full (4 + ((k : Int))) p2 s2 _ B9 hB9 (by omega) (hp2.kept H.k) hY2) (fun _ hk => ⟨_, _, (H.kept hk)⟩) ?_); clear F A; intro vv W A hR hk _ F; replace H := H.kept hk; obtain ⟨q9, s9, rfl, hA9, hX9⟩ := hR
        replace hA8 := (Aw.no hA8 hk)
        clear hk
        obtain ⟨W9, hr, hB, hk⟩ := jC (P := Tryz.prog) (S := 27) (c := (Pk.cells q8 s8)) _ (H.b.at_ (j := 1) rfl).1 (jg _) rfl (ja _ _)
        replace hA8 := Aw.st hA8 hk (H.b.at_ (j := 1) rfl).1 (nuPk _ _) hl_8_b2
        replace hA9 := Aw.st hA9 hk (H.b.at_ (j := 1) rfl).1 (nuPk _ _) hl_9_b2
        replace H : Hp _ _ [_, _] := Hp.turn [_] H hk hB; clear hk hB
        refine jO (i := 6) (by kernel_rfl) (zF (i := 6) rfl (jJ rfl (F.e rfl) (F.e rfl) hr) (⟨_, _, H⟩) ?_); clear hr
        obtain ⟨W9, hr, hB, hk⟩ := jC (P := Tryz.prog) (S := 27) (c := (Pk.cells q9 s9)) _ (H.b.at_ (j := 0) rfl).1 (jg _) rfl (ja _ _)
        replace hA8 := Aw.st hA8 hk (H.b.at_ (j := 0) rfl).1 (nuPk _ _) hl_8_b3
        replace hA9 := Aw.st hA9 hk (H.b.at_ (j := 0) rfl).1 (nuPk _ _) hl_9_b3
        replace H : Hp _ _ [_, _] := Hp.turn [] H hk hB; clear hk hB
        refine jO (i := 7) (by kernel_rfl) (zF (i := 7) rfl (jJ rfl (F.e rfl) (F.e rfl) hr) (⟨_, _, H⟩) ?_); clear hr
        refine wpAnyH_done (by kernel_rfl) ?_ _
        exact hK5 _ _ ⟨q8, s8, q9, s9, ((((F.nil.cons (F.g 7 _ rfl)).cons (F.g 6 _ rfl)).cons (F.g 5 _ rfl)).cons (F.g 4 _ rfl)), H, hA8.at_, hX8, hA8.sc, hA9.at_, hX9, hA9.sc⟩
    · skip
      refine qO (v := (Pk.val p2 s2)) (i := 4) F rfl rfl (jA rfl (F.e rfl) (jE ((Pk.cells p2 s2)) rfl (qR _) (jg _) (fun i => H.cs 0 rfl i))) (⟨_, _, H⟩) ?_; clear F A; intro A F
      refine jO (i := 1) (by kernel_rfl) (qO (v := (Pk.val p s)) (i := 1) F rfl rfl (jA rfl (F.e rfl) (jE ((Pk.cells p s)) rfl (qR _) (jg _) (fun i => H.cs 1 rfl i))) (⟨_, _, H⟩) ?_); clear F A; intro A F
      obtain ⟨B10, hB10⟩ : ∃ n, n = W.heap.size := ⟨_, rfl⟩
      have hl_10_b3 : b3 < B10 := by rw [hB10]; exact (Array.getElem?_eq_some_iff.1 (H.b.at_ (j := 0) rfl).1).1
      have hl_10_b2 : b2 < B10 := by rw [hB10]; exact (Array.getElem?_eq_some_iff.1 (H.b.at_ (j := 1) rfl).1).1
      refine jO (i := 2) (by kernel_rfl) (vO (i := 2) (R := Fix9R (4 + ((k : Int))) B10) F rfl rfl (j6 rfl rfl (j0 (F.e rfl) (j0 (F.e rfl) j9)) fn_4) (fix9_full (4 + ((k : Int))) p s _ B10 hB10 (by omega) (hp.kept H.k) hY) (fun _ hk => ⟨_, _, (H.kept hk)⟩) ?_); clear F A; intro vv W A hR hk _ F; replace H := H.kept hk; obtain ⟨q10, s10, rfl, hA10, hX10⟩ := hR
      clear hk
      obtain ⟨B11, hB11⟩ : ∃ n, n = W.heap.size := ⟨_, rfl⟩
      have hl_11_b3 : b3 < B11 := by rw [hB11]; exact (Array.getElem?_eq_some_iff.1 (H.b.at_ (j := 0) rfl).1).1
      have hl_11_b2 : b2 < B11 := by rw [hB11]; exact (Array.getElem?_eq_some_iff.1 (H.b.at_ (j := 1) rfl).1).1
      refine jO (i := 5) (by kernel_rfl) (vO (i := 5) (R := Fix9R (4 + ((k : Int))) B11) F rfl rfl (j6 rfl rfl (j0 (F.e rfl) (j0 (F.e rfl) j9)) fn_4) (fix9_full (4 + ((k : Int))) p2 s2 _ B11 hB11 (by omega) (hp2.kept H.k) hY2) (fun _ hk => ⟨_, _, (H.kept hk)⟩) ?_); clear F A; intro vv W A hR hk _ F; replace H := H.kept hk; obtain ⟨q11, s11, rfl, hA11, hX11⟩ := hR
      replace hA10 := (Aw.no hA10 hk)
      clear hk
      obtain ⟨W9, hr, hB, hk⟩ := jC (P := Tryz.prog) (S := 27) (c := (Pk.cells q10 s10)) _ (H.b.at_ (j := 1) rfl).1 (jg _) rfl (ja _ _)
      replace hA10 := Aw.st hA10 hk (H.b.at_ (j := 1) rfl).1 (nuPk _ _) hl_10_b2
      replace hA11 := Aw.st hA11 hk (H.b.at_ (j := 1) rfl).1 (nuPk _ _) hl_11_b2
      replace H : Hp _ _ [_, _] := Hp.turn [_] H hk hB; clear hk hB
      refine jO (i := 6) (by kernel_rfl) (zF (i := 6) rfl (jJ rfl (F.e rfl) (F.e rfl) hr) (⟨_, _, H⟩) ?_); clear hr
      obtain ⟨W9, hr, hB, hk⟩ := jC (P := Tryz.prog) (S := 27) (c := (Pk.cells q11 s11)) _ (H.b.at_ (j := 0) rfl).1 (jg _) rfl (ja _ _)
      replace hA10 := Aw.st hA10 hk (H.b.at_ (j := 0) rfl).1 (nuPk _ _) hl_10_b3
      replace hA11 := Aw.st hA11 hk (H.b.at_ (j := 0) rfl).1 (nuPk _ _) hl_11_b3
      replace H : Hp _ _ [_, _] := Hp.turn [] H hk hB; clear hk hB
      refine jO (i := 7) (by kernel_rfl) (zF (i := 7) rfl (jJ rfl (F.e rfl) (F.e rfl) hr) (⟨_, _, H⟩) ?_); clear hr
      refine wpAnyH_done (by kernel_rfl) ?_ _
      exact hK5 _ _ ⟨q10, s10, q11, s11, ((((F.nil.cons (F.g 7 _ rfl)).cons (F.g 6 _ rfl)).cons (F.g 5 _ rfl)).cons (F.g 4 _ rfl)), H, hA10.at_, hX10, hA10.sc, hA11.at_, hX11, hA11.sc⟩
  clear F H; obtain ⟨q94, s94, q95, s95, F, H, hA94, hX94, hC94, hA95, hX95, hC95⟩ := hM
  obtain ⟨w94, K94, hA94⟩ : ∃ w1, Kept No w1 W ∧ Pk.At q94 s94 w1 := ⟨W, Kept.refl No W, hA94⟩
  obtain ⟨w95, K95, hA95⟩ : ∃ w1, Kept No w1 W ∧ Pk.At q95 s95 w1 := ⟨W, Kept.refl No W, hA95⟩
  refine wp_seq_k (fun K12 hK12 => jB ?_)
  refine zd ?_; clear F A; intro A F
  refine j7 F rfl (jA rfl (F.e rfl) (jE ((Pk.cells q94 s94)) rfl (qR _) (jg _) (fun i => H.cs 1 rfl i))) ?_; clear F A; intro A F
  refine va (R := fun vv ww => ∃ s9, vv = Pk.val q94 s9 ∧ Pk.At q94 s9 ww ∧ (s9.ca = none → (Pk.codes q94).length = 0 ∧ s9.cc = 0)) F H rfl (j6 rfl rfl (j0 (F.e rfl) j9) fn_6) ((jEi q94 s94 _ (hA94.kept K94) (hX94.fine.fit (by decide)).few hC94).mono fun e9 ww ⟨s9, h91, h92, h93, h94⟩ => ⟨_, h91, ⟨s9, rfl, h92, h94⟩, h93⟩) ?_; clear F H A; intro vv W A hR hk H F; obtain ⟨t13, rfl, hA13, hC13⟩ := hR
  replace K94 := K94.trans hk
  replace K95 := K95.trans hk
  clear hk
  obtain ⟨w13, K13, hA13⟩ : ∃ w1, Kept No w1 W ∧ Pk.At q94 t13 w1 := ⟨W, Kept.refl No W, hA13⟩
  refine va (R := EncR (4 + ((k : Int))) q94) F H rfl (j6 rfl rfl (j0 (F.e rfl) (j0 (F.e rfl) j9)) jP7) (encR (j5h (4 + ((k : Int))) q94 t13 _ (hA13.kept K13) (hX94.fine.fit (by decide)) (hT.kept H.k) (fun h => (hC13 h).2))) ?_; clear F H A; intro vv W A hR hk H F; obtain ⟨ae14, ce14, rfl, hRE14, hNE14, hLE14⟩ := hR
  replace K94 := K94.trans hk
  replace K95 := K95.trans hk
  replace K13 := K13.trans hk
  clear hk
  obtain ⟨wE14, KE14, hRE14⟩ : ∃ w1, Kept No w1 W ∧ Row w1 ae14 (B8 (xp (4 + ((k : Int))) q94)) := ⟨W, Kept.refl No W, hRE14⟩
  iterate 5 (refine zd ?_; clear F A; intro A F)
  refine wpList_nil (hK12 _ _ ?_)
  refine wp_seq_k (fun K15 hK15 => jB ?_)
  refine zd ?_; clear F A; intro A F
  refine j7 F rfl (jA rfl (F.e rfl) (jE ((Pk.cells q95 s95)) rfl (qR _) (jg _) (fun i => H.cs 0 rfl i))) ?_; clear F A; intro A F
  refine va (R := fun vv ww => ∃ s9, vv = Pk.val q95 s9 ∧ Pk.At q95 s9 ww ∧ (s9.ca = none → (Pk.codes q95).length = 0 ∧ s9.cc = 0)) F H rfl (j6 rfl rfl (j0 (F.e rfl) j9) fn_6) ((jEi q95 s95 _ (hA95.kept K95) (hX95.fine.fit (by decide)).few hC95).mono fun e9 ww ⟨s9, h91, h92, h93, h94⟩ => ⟨_, h91, ⟨s9, rfl, h92, h94⟩, h93⟩) ?_; clear F H A; intro vv W A hR hk H F; obtain ⟨t16, rfl, hA16, hC16⟩ := hR
  replace K94 := K94.trans hk
  replace K95 := K95.trans hk
  replace K13 := K13.trans hk
  replace KE14 := KE14.trans hk
  clear hk
  obtain ⟨w16, K16, hA16⟩ : ∃ w1, Kept No w1 W ∧ Pk.At q95 t16 w1 := ⟨W, Kept.refl No W, hA16⟩
  refine va (R := EncR (4 + ((k : Int))) q95) F H rfl (j6 rfl rfl (j0 (F.e rfl) (j0 (F.e rfl) j9)) jP7) (encR (j5h (4 + ((k : Int))) q95 t16 _ (hA16.kept K16) (hX95.fine.fit (by decide)) (hT.kept H.k) (fun h => (hC16 h).2))) ?_; clear F H A; intro vv W A hR hk H F; obtain ⟨ae17, ce17, rfl, hRE17, hNE17, hLE17⟩ := hR
  replace K94 := K94.trans hk
  replace K95 := K95.trans hk
  replace K13 := K13.trans hk
  replace KE14 := KE14.trans hk
  replace K16 := K16.trans hk
  clear hk
  obtain ⟨wE17, KE17, hRE17⟩ : ∃ w1, Kept No w1 W ∧ Row w1 ae17 (B8 (xp (4 + ((k : Int))) q95)) := ⟨W, Kept.refl No W, hRE17⟩
  iterate 5 (refine zd ?_; clear F A; intro A F)
  refine wpList_nil (hK15 _ _ ?_)
  refine wp_seq_k (fun K18 hK18 => ?_)
  refine wp_seq_k (fun K19 hK19 => ?_)
  have hKW := (Kept.refl No W).drew
  have KE14z := KE14
  have KE17z := KE17
  refine wp_region_held_drew (S := fun wx => ∃ c9 : Kept No W wx, Hp _ wx [_, _]) (by kernel_rfl) ⟨hKW, H.drew⟩ (fun H9 => ?_); clear H9; replace H := H.drew
  replace K94 := K94.trans (Kept.refl No _).drew
  replace K95 := K95.trans (Kept.refl No _).drew
  replace K13 := K13.trans (Kept.refl No _).drew
  replace KE14 := KE14.trans (Kept.refl No _).drew
  replace K16 := K16.trans (Kept.refl No _).drew
  replace KE17 := KE17.trans (Kept.refl No _).drew
  generalize World.drew _ = W at *
  refine jO (i := 0) (by kernel_rfl) (jZ (i := 0) F rfl rfl (j6 rfl rfl j9 fn_7) (jF0 _ (hT.kept H.k)) (fun _ hk => ⟨(hKW.trans hk), (H.kept hk)⟩) ?_); clear F A; intro W A hk _ F; replace H := H.kept hk
  replace K94 := K94.trans hk
  replace K95 := K95.trans hk
  replace K13 := K13.trans hk
  replace KE14 := KE14.trans hk
  replace K16 := K16.trans hk
  replace KE17 := KE17.trans hk
  replace hKW := hKW.trans hk
  clear hk
  refine jG (i := 1) F rfl rfl (by kernel_rfl) (fun _ _ _ h => h) (⟨hKW, H⟩) (fun wz ⟨c9, H⟩ => (j5i rfl (F.e rfl))) ?_; clear F A; intro A F
  refine jG (i := 2) F rfl rfl (by kernel_rfl) (fun _ _ _ h => h) (⟨hKW, H⟩) (fun wz ⟨c9, H⟩ => (xA rfl (F.e rfl))) ?_; clear F A; intro A F
  refine jJ9 (i := 3) F rfl rfl (by kernel_rfl) (fun _ _ _ h => h) (⟨hKW, H⟩) (zS (X := false) F rfl rfl rfl) (fun wz ⟨c9, H⟩ => (xA rfl (F.e rfl))) ?_; clear F A; intro A F
  refine jJ9 (i := 4) F rfl rfl (by kernel_rfl) (fun _ _ _ h => h) (⟨hKW, H⟩) (zS (X := false) F rfl rfl rfl) (fun wz ⟨c9, H⟩ => (jF rfl (F.e rfl) jD (vV (i := eN (4 + ((k : Int))) q94) (j := 0)))) ?_; clear F A; intro A F
  have hr21 : (!decide (eN (4 + ((k : Int))) q94 = 0)) = false := (by rw [eN_0 hX94.right]; rfl)
  replace F := F.hd (congrArg Value.bool hr21)
  refine jG (i := 5) F rfl rfl (by kernel_rfl) (fun _ _ _ h => h) (⟨hKW, H⟩) (fun wz ⟨c9, H⟩ => (j5j rfl (F.e rfl) (F.e rfl))) ?_; clear F A; intro A F
  refine jG (i := 6) F rfl rfl (by kernel_rfl) (fun _ _ _ h => h) (⟨hKW, H⟩) (fun wz ⟨c9, H⟩ => (xA rfl (F.e rfl))) ?_; clear F A; intro A F
  refine jJ9 (i := 7) F rfl rfl (by kernel_rfl) (fun _ _ _ h => h) (⟨hKW, H⟩) (zS (X := false) F rfl rfl rfl) (fun wz ⟨c9, H⟩ => (xA rfl (F.e rfl))) ?_; clear F A; intro A F
  refine jJ9 (i := 8) F rfl rfl (by kernel_rfl) (fun _ _ _ h => h) (⟨hKW, H⟩) (zS (X := false) F rfl rfl rfl) (fun wz ⟨c9, H⟩ => (jF rfl (F.e rfl) jD (vV (i := eN (4 + ((k : Int))) q95) (j := 0)))) ?_; clear F A; intro A F
  have hr22 : (!decide (eN (4 + ((k : Int))) q95 = 0)) = false := (by rw [eN_0 hX95.right]; rfl)
  replace F := F.hd (congrArg Value.bool hr22)
  refine jG (i := 9) F rfl rfl (by kernel_rfl) (fun _ _ _ h => h) (⟨hKW, H⟩) (fun wz ⟨c9, H⟩ => (j5j rfl (F.e rfl) (F.e rfl))) ?_; clear F A; intro A F
  refine jG (i := 10) F rfl rfl (by kernel_rfl) (fun _ _ _ h => h) (⟨hKW, H⟩) (fun wz ⟨c9, H⟩ => (xA rfl (F.e rfl))) ?_; clear F A; intro A F
  refine jJ9 (i := 11) F rfl rfl (by kernel_rfl) (fun _ _ _ h => h) (⟨hKW, H⟩) (zS (X := false) F rfl rfl rfl) (fun wz ⟨c9, H⟩ => (xA rfl (F.e rfl))) ?_; clear F A; intro A F
  refine jJ9 (i := 12) F rfl rfl (by kernel_rfl) (fun _ _ _ h => h) (⟨hKW, H⟩) (zS (X := false) F rfl rfl rfl) (fun wz ⟨c9, H⟩ => (vZ rfl (F.e rfl) (jOx (hRE14.keptNo (KE14z.trans c9)) hNE14))) ?_; clear F A; intro A F
  refine jJ9 (i := 13) F rfl rfl (by kernel_rfl) (fun _ _ _ h => h) (⟨hKW, H⟩) (zS (X := false) F rfl rfl rfl) (fun wz ⟨c9, H⟩ => (xA rfl (F.e rfl))) ?_; clear F A; intro A F
  refine jJ9 (i := 14) F rfl rfl (by kernel_rfl) (fun _ _ _ h => h) (⟨hKW, H⟩) (zS (X := false) F rfl rfl rfl) (fun wz ⟨c9, H⟩ => (vZ rfl (F.e rfl) (jOx (hRE17.keptNo (KE17z.trans c9)) hNE17))) ?_; clear F A; intro A F
  refine jJ9 (i := 15) F rfl rfl (by kernel_rfl) (fun _ _ _ h => h) (⟨hKW, H⟩) (zS (X := false) F rfl rfl rfl) (fun wz ⟨c9, H⟩ => (jF rfl (F.e rfl) (F.e rfl) (vJ))) ?_; clear F A; intro A F
  refine jJ9 (i := 16) F rfl rfl (by kernel_rfl) (fun _ _ _ h => h) (⟨hKW, H⟩) (zS (X := false) F rfl rfl rfl) (fun wz ⟨c9, H⟩ => (jA rfl (F.e rfl) (jE ((Pk.cells q94 s94)) rfl (qR _) (jg _) (fun i => H.cs 1 rfl i)))) ?_; clear F A; intro A F
  refine jJ9 (i := 17) F rfl rfl (by kernel_rfl) (fun _ _ _ h => h) (⟨hKW, H⟩) (zS (X := false) F rfl rfl rfl) (fun wz ⟨c9, H⟩ => (jA rfl (F.e rfl) (jE ((Pk.cells q95 s95)) rfl (qR _) (jg _) (fun i => H.cs 0 rfl i)))) ?_; clear F A; intro A F
  refine jBi (i := 18) F rfl rfl (by kernel_rfl) (zS (X := false) F rfl rfl rfl) (j6 rfl rfl (j0 (F.e rfl) (j0 (F.e rfl) j9)) fn_8) (j96 q94 q95 s94 s95 _ (hA94.kept K94) (hA95.kept K95) (hX94.fine.fit (by decide)).few (hX95.fine.fit (by decide)).few ⟨fun h => (hC94 h).2⟩ ⟨fun h => (hC95 h).2⟩) (fun _ hk => ⟨(hKW.trans hk), (H.kept hk)⟩) ?_; clear F A; intro W A hk HS9 F; replace H := H.kept hk; clear HS9
  replace K94 := K94.trans hk
  replace K95 := K95.trans hk
  replace K13 := K13.trans hk
  replace KE14 := KE14.trans hk
  replace K16 := K16.trans hk
  replace KE17 := KE17.trans hk
  replace hKW := hKW.trans hk
  clear hk
  refine jJ9 (i := 19) F rfl rfl (by kernel_rfl) (fun _ _ _ h => h) (⟨hKW, H⟩) (zS (X := false) F rfl rfl rfl) (fun wz ⟨c9, H⟩ => (jF rfl (F.e rfl) (F.e rfl) (j0y Tryz.underlying4))) ?_; clear F A; intro A F
  have hr24 : (!((decide ((⟨(xp (4 + ((k : Int))) q94).toArray⟩ : ByteArray) = (⟨(xp (4 + ((k : Int))) q95).toArray⟩ : ByteArray))) == (decide (q94 = q95)))) = false := (by rw [enc_same hX94 hX95]; simp)
  replace F := F.hd (congrArg Value.bool hr24)
  refine jG (i := 20) F rfl rfl (by kernel_rfl) (fun _ _ _ h => h) (⟨hKW, H⟩) (fun wz ⟨c9, H⟩ => (j5j rfl (F.e rfl) (F.e rfl))) ?_; clear F A; intro A F
  refine wpAnyH_done (by kernel_rfl) ?_ _
  refine hK19 _ _ ?_
  refine wp_cond_false (F.e rfl) ?_
  refine wp_skip (hK18 _ _ ?_)
  refine wp_seq_k (fun K25 hK25 => ?_)
  rcases hle : decide (((xp (4 + ((k : Int))) q95).length) ≤ ((xp (4 + ((k : Int))) q94).length)) with _ | _
  · skip
    have hlt9 : (xp (4 + ((k : Int))) q94).length < (xp (4 + ((k : Int))) q95).length := by have h9 := of_decide_eq_false hle; omega
    obtain ⟨a6, hsl6, hr6, hn6, hc6⟩ := slice_takeO ae17 ce17 (xp (4 + ((k : Int))) q95) (xp (4 + ((k : Int))) q94).length hLE17
    rw [show min (xp (4 + ((k : Int))) q95).length (xp (4 + ((k : Int))) q94).length = (xp (4 + ((k : Int))) q94).length by omega] at hsl6
    have hKW := (Kept.refl No W).drew
    have KE14z := KE14
    have KE17z := KE17
    refine wp_region_held_drew (S := fun wx => ∃ c9 : Kept No W wx, Hp _ wx [_, _]) (by kernel_rfl) ⟨hKW, H.drew⟩ (fun H9 => ?_); clear H9; replace H := H.drew
    replace K94 := K94.trans (Kept.refl No _).drew
    replace K95 := K95.trans (Kept.refl No _).drew
    replace K13 := K13.trans (Kept.refl No _).drew
    replace KE14 := KE14.trans (Kept.refl No _).drew
    replace K16 := K16.trans (Kept.refl No _).drew
    replace KE17 := KE17.trans (Kept.refl No _).drew
    generalize World.drew _ = W at *
    refine jG (i := 0) F rfl rfl (by kernel_rfl) (fun _ _ _ h => h) (⟨hKW, H⟩) (fun wz ⟨c9, H⟩ => (xA rfl (F.e rfl))) ?_; clear F A; intro A F
    refine jG (i := 1) F rfl rfl (by kernel_rfl) (fun _ _ _ h => h) (⟨hKW, H⟩) (fun wz ⟨c9, H⟩ => (qH rfl (j0 (F.e rfl) j9) (qK Tryz.underlying25))) ?_; clear F A; intro A F
    refine jG (i := 2) F rfl rfl (by kernel_rfl) (fun _ _ _ h => h) (⟨hKW, H⟩) (fun wz ⟨c9, H⟩ => (xA rfl (F.e rfl))) ?_; clear F A; intro A F
    refine jG (i := 3) F rfl rfl (by kernel_rfl) (fun _ _ _ h => h) (⟨hKW, H⟩) (fun wz ⟨c9, H⟩ => (qH rfl (j0 (F.e rfl) j9) (qK Tryz.underlying25))) ?_; clear F A; intro A F
    refine jG (i := 4) F rfl rfl (by kernel_rfl) (fun _ _ _ h => h) (⟨hKW, H⟩) (fun wz ⟨c9, H⟩ => (jF rfl (F.e rfl) (F.e rfl) (jJx (i := ((xp (4 + ((k : Int))) q94).length)) (j := ((xp (4 + ((k : Int))) q95).length))))) ?_; clear F A; intro A F
    replace F := F.hd (congrArg Value.bool hle)
    refine jG (i := 5) F rfl rfl (by kernel_rfl) (fun _ _ _ h => h) (⟨hKW, H⟩) (fun wz ⟨c9, H⟩ => (xA rfl (F.e rfl))) ?_; clear F A; intro A F
    refine jJ9 (i := 6) F rfl rfl (by kernel_rfl) (fun _ _ _ h => h) (⟨hKW, H⟩) (zS (X := false) F rfl rfl rfl) (fun wz ⟨c9, H⟩ => (xA rfl (F.e rfl))) ?_; clear F A; intro A F
    refine jJ9 (i := 7) F rfl rfl (by kernel_rfl) (fun _ _ _ h => h) (⟨hKW, H⟩) (zS (X := false) F rfl rfl rfl) (fun wz ⟨c9, H⟩ => (xA rfl (F.e rfl))) ?_; clear F A; intro A F
    refine jJ9 (i := 8) F rfl rfl (by kernel_rfl) (fun _ _ _ h => h) (⟨hKW, H⟩) (zS (X := false) F rfl rfl rfl) (fun wz ⟨c9, H⟩ => (qH rfl (j0 (F.e rfl) j9) (qK Tryz.underlying25))) ?_; clear F A; intro A F
    refine jJ9 (i := 9) F rfl rfl (by kernel_rfl) (fun _ _ _ h => h) (⟨hKW, H⟩) (zS (X := false) F rfl rfl rfl) (fun wz ⟨c9, H⟩ => (zv rfl (F.e rfl) rfl (congrArg some (F.e rfl)) rfl (hsl6 _))) ?_; clear F A; intro A F
    refine jJ9 (i := 10) F rfl rfl (by kernel_rfl) (fun _ _ _ h => h) (⟨hKW, H⟩) (zS (X := false) F rfl rfl rfl) (fun wz ⟨c9, H⟩ => (vZ rfl (F.e rfl) (jOx (hr6 _ (hRE17.keptNo (KE17z.trans c9))) (fun e => (hn6 (fun e9 => ⟨by have := hNE17 e9; omega, hNE17 e9⟩) e).2)))) ?_; clear F A; intro A F
    refine jJ9 (i := 11) F rfl rfl (by kernel_rfl) (fun _ _ _ h => h) (⟨hKW, H⟩) (zS (X := false) F rfl rfl rfl) (fun wz ⟨c9, H⟩ => (xA rfl (F.e rfl))) ?_; clear F A; intro A F
    refine jJ9 (i := 12) F rfl rfl (by kernel_rfl) (fun _ _ _ h => h) (⟨hKW, H⟩) (zS (X := false) F rfl rfl rfl) (fun wz ⟨c9, H⟩ => (vZ rfl (F.e rfl) (jOx (hRE14.keptNo (KE14z.trans c9)) hNE14))) ?_; clear F A; intro A F
    refine jJ9 (i := 13) F rfl rfl (by kernel_rfl) (fun _ _ _ h => h) (⟨hKW, H⟩) (zS (X := false) F rfl rfl rfl) (fun wz ⟨c9, H⟩ => (jF rfl (F.e rfl) (F.e rfl) (j4w))) ?_; clear F A; intro A F
    have hr26 : (!decide ((⟨((xp (4 + ((k : Int))) q95).take (xp (4 + ((k : Int))) q94).length).toArray⟩ : ByteArray) = (⟨(xp (4 + ((k : Int))) q94).toArray⟩ : ByteArray))) = true := (by simp only [Bool.not_eq_true', decide_eq_false_iff_not, decide_eq_true_eq]; exact fun e => enc_pre hX94 hX95 hlt9 (ba_inj e))
    replace F := F.hd (congrArg Value.bool hr26)
    refine jG (i := 14) F rfl rfl (by kernel_rfl) (fun _ _ _ h => h) (⟨hKW, H⟩) (fun wz ⟨c9, H⟩ => (j5j rfl (F.e rfl) (F.e rfl))) ?_; clear F A; intro A F
    refine jG (i := 15) F rfl rfl (by kernel_rfl) (fun _ _ _ h => h) (⟨hKW, H⟩) (fun wz ⟨c9, H⟩ => (xu rfl (F.e rfl))) ?_; clear F A; intro A F
    refine wpAnyH_done (by kernel_rfl) ?_ _
    refine hK25 _ _ ?_
    refine jH ?_
    refine (show bodyPost _ Tryz.f3 RR Exit.ret _ _ from zr ?_)
    exact ⟨by first | rfl | simp, H.k.below (Nat.le_refl _) (fun _ _ f9 => f9)⟩
  have hKW := (Kept.refl No W).drew
  have KE14z := KE14
  have KE17z := KE17
  refine wp_region_held_drew (S := fun wx => ∃ c9 : Kept No W wx, Hp _ wx [_, _]) (by kernel_rfl) ⟨hKW, H.drew⟩ (fun H9 => ?_); clear H9; replace H := H.drew
  replace K94 := K94.trans (Kept.refl No _).drew
  replace K95 := K95.trans (Kept.refl No _).drew
  replace K13 := K13.trans (Kept.refl No _).drew
  replace KE14 := KE14.trans (Kept.refl No _).drew
  replace K16 := K16.trans (Kept.refl No _).drew
  replace KE17 := KE17.trans (Kept.refl No _).drew
  generalize World.drew _ = W at *
  refine jG (i := 0) F rfl rfl (by kernel_rfl) (fun _ _ _ h => h) (⟨hKW, H⟩) (fun wz ⟨c9, H⟩ => (xA rfl (F.e rfl))) ?_; clear F A; intro A F
  refine jG (i := 1) F rfl rfl (by kernel_rfl) (fun _ _ _ h => h) (⟨hKW, H⟩) (fun wz ⟨c9, H⟩ => (qH rfl (j0 (F.e rfl) j9) (qK Tryz.underlying25))) ?_; clear F A; intro A F
  refine jG (i := 2) F rfl rfl (by kernel_rfl) (fun _ _ _ h => h) (⟨hKW, H⟩) (fun wz ⟨c9, H⟩ => (xA rfl (F.e rfl))) ?_; clear F A; intro A F
  refine jG (i := 3) F rfl rfl (by kernel_rfl) (fun _ _ _ h => h) (⟨hKW, H⟩) (fun wz ⟨c9, H⟩ => (qH rfl (j0 (F.e rfl) j9) (qK Tryz.underlying25))) ?_; clear F A; intro A F
  refine jG (i := 4) F rfl rfl (by kernel_rfl) (fun _ _ _ h => h) (⟨hKW, H⟩) (fun wz ⟨c9, H⟩ => (jF rfl (F.e rfl) (F.e rfl) (jJx (i := ((xp (4 + ((k : Int))) q94).length)) (j := ((xp (4 + ((k : Int))) q95).length))))) ?_; clear F A; intro A F
  replace F := F.hd (congrArg Value.bool hle)
  refine jG (i := 5) F rfl rfl (by kernel_rfl) (fun _ _ _ h => h) (⟨hKW, H⟩) (fun wz ⟨c9, H⟩ => (xA rfl (F.e rfl))) ?_; clear F A; intro A F
  refine hzh_no (i := 6) F rfl rfl (by kernel_rfl) (fun _ _ _ h => h) (⟨hKW, H⟩) (zS (X := true) F rfl rfl rfl) ?_; clear F A; intro A F
  refine hzh_no (i := 7) F rfl rfl (by kernel_rfl) (fun _ _ _ h => h) (⟨hKW, H⟩) (zS (X := true) F rfl rfl rfl) ?_; clear F A; intro A F
  refine hzh_no (i := 8) F rfl rfl (by kernel_rfl) (fun _ _ _ h => h) (⟨hKW, H⟩) (zS (X := true) F rfl rfl rfl) ?_; clear F A; intro A F
  refine hzh_no (i := 9) F rfl rfl (by kernel_rfl) (fun _ _ _ h => h) (⟨hKW, H⟩) (zS (X := true) F rfl rfl rfl) ?_; clear F A; intro A F
  refine hzh_no (i := 10) F rfl rfl (by kernel_rfl) (fun _ _ _ h => h) (⟨hKW, H⟩) (zS (X := true) F rfl rfl rfl) ?_; clear F A; intro A F
  refine hzh_no (i := 11) F rfl rfl (by kernel_rfl) (fun _ _ _ h => h) (⟨hKW, H⟩) (zS (X := true) F rfl rfl rfl) ?_; clear F A; intro A F
  refine hzh_no (i := 12) F rfl rfl (by kernel_rfl) (fun _ _ _ h => h) (⟨hKW, H⟩) (zS (X := true) F rfl rfl rfl) ?_; clear F A; intro A F
  refine hzh_no (i := 13) F rfl rfl (by kernel_rfl) (fun _ _ _ h => h) (⟨hKW, H⟩) (zS (X := true) F rfl rfl rfl) ?_; clear F A; intro A F
  refine jG (i := 14) F rfl rfl (by kernel_rfl) (fun _ _ _ h => h) (⟨hKW, H⟩) (fun wz ⟨c9, H⟩ => (j5k rfl (F.e rfl) jD)) ?_; clear F A; intro A F
  refine jG (i := 15) F rfl rfl (by kernel_rfl) (fun _ _ _ h => h) (⟨hKW, H⟩) (fun wz ⟨c9, H⟩ => (xu rfl (F.e rfl))) ?_; clear F A; intro A F
  refine wpAnyH_done (by kernel_rfl) ?_ _
  refine hK25 _ _ ?_
  refine jH ?_
  refine (show bodyPost _ Tryz.f3 RR Exit.ret _ _ from zr ?_)
  exact ⟨by first | rfl | simp, H.k.below (Nat.le_refl _) (fun _ _ f9 => f9)⟩
theorem encodeOnce_full (v : Int) (p : Pk) (s : Sl) (p2 : Pk) (s2 : Sl) (w : World) (w0 : (Lit.int .i64 v).wf = true) (w1 : IsPk w p s) (r1 : Reach p) (w2 : IsPk w p2 s2) (r2 : Reach p2) (hT : Tabs w) :
    Calls Tryz.prog 3 #[.int .i64 v, p.val s, p2.val s2] w fun e w' => e = .returned (.bool true) ∧ Below w.heap.size w w' :=
  encodeOnce_walk v p s p2 s2 w w1.at w2.at (w1.any r1) (w2.any r2) hT
end Go.Proofs.YtkochkhfbhjicaaGreatDoor
