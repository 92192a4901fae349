/-
  The document's Fix of lists.
-/
import Derived.Test.YtfcgfkgibimffaaDoorZPfL
namespace Go.Proofs.YtfcgfkgibimffaaDoor
open Go.RowKit
set_option linter.unusedVariables false
set_option linter.unusedSimpArgs false
set_option maxRecDepth 100000

theorem rget_parts (a : Option Addr) (c : Nat) (L : List Pr) (x : Nat) (xi : Int) (hx : xi = x) (hl : L.length ≤ 100000) : ∃ i n A B, ∃ s, s = (getL L x).isSome ∧ ∀ w, Row w a (PC L) →
    Calls Tryd.prog 28 #[.slice a L.length c, .int .u8 xi] w (fun e w' => e = .returned (.tuple #[.agg #[.int .u8 (i : Nat), .int .u32 (n : Nat), .string A, .string B], .bool s]) ∧ Kept No w w') :=
  by
  subst hx
  exact ⟨_, _, _, _, _, rfl, fun w hr => (rget_any a c L x w hr hl).mono fun e w' h => ⟨h.1, h.2⟩⟩
theorem rsort_own (a : Option Addr) (c0 : Nat) (M : List Pr) (w : World) (hr : Row w a (PC M)) (hn : a = none → M.length = 0 ∧ c0 = 0) (hl : M.length ≤ 100000) :
    Calls Tryd.prog 21 #[.slice a M.length c0] w fun e w' => ∃ a' c', e = .returned (.slice a' M.length c') ∧ w'.ownsRow w.heap.size 58 4 (.slice a' M.length c') M.length (PC (sortL M)) ∧ Kept No w w' :=
  (rsort_any a c0 M w hr hn hl).mono fun e w' ⟨a', c', h1, h2, h3⟩ => by
    rw [sortL_length] at h1 h2
    exact ⟨a', c', h1, h2, h3⟩
theorem fixGo_step {k : Int} {L out : List Pr} {j : Nat} (h : j < L.length) (h8 : j < 8) : fixGo k out ((L.take 8).drop j) = if (fxP k L[j]).id = 0 then none else if (getL out (fxP k L[j]).id).isSome && !oftenB (fxP k L[j]).id k then fixGo k out ((L.take 8).drop (j + 1)) else fixGo k (out ++ [fxP k L[j]]) ((L.take 8).drop (j + 1)) := by
  have e : (L.take 8).drop j = L[j] :: (L.take 8).drop (j + 1) := by
    have h9 : j < (L.take 8).length := by rw [List.length_take]; omega
    rw [List.drop_eq_getElem_cons h9, List.getElem_take]
  rw [e, fixGo]
set_option maxHeartbeats 8000000 in
theorem rfix6_any (a : Option Addr) (c : Nat) (L : List Pr) (k : Int) (w : World) (hr : Row w a (PC L)) (hl : L.length ≤ 9223372036854775807) (hw : ∀ p ∈ L, p.id < 256 ∧ p.n < 4294967296 ∧ p.a.size ≤ 9223372036854775807 ∧ p.b.size ≤ 9223372036854775807) :
    Calls Tryd.prog 34 #[.slice a L.length c, .int .i64 k] w (OwnP 58 w (fix6 L k)) := by
  obtain ⟨i0, hi, hz0, hz1, hz2⟩ := info_parts info_rprop
  have HW := Lib.hid hw
  have HFa : Hid (fixGo k [] (L.take 8) = none → fix6 L k = []) := Lib.hid (fun h => by unfold fix6; rw [h])
  have HF6 : Hid (∀ out, fixGo k [] (L.take 8) = some out → fix6 L k = sortL (addM out)) := Lib.hid (fun out h => by unfold fix6; rw [h])
  generalize fix6 L k = RES at *
  clear hw
  have hlI : (L.length : Int) ≤ 9223372036854775807 := by omega
  go_enter Tryd.func34, Tryd.ntmps34
  go_wp2
  go_loopw [5, 6] (fun s i wr => ∃ (j : Nat) (out : List Pr), i = .int .i64 j ∧ j ≤ L.length ∧ j ≤ 8 ∧ out.length ≤ j ∧ Hid (fixGo k [] (L.take 8) = fixGo k out ((L.take 8).drop j)) ∧ wr.ownsRow w.heap.size 58 4 s out.length (PC out) ∧ Kept No w wr) (fun _ i _ => L.length - (intOf i).toNat)
  case atStart => exact ⟨0, [], rfl, by omega, by omega, by simp, Lib.hid (by simp), World.ownsRow_nil _ _ _ _, Kept.refl _ _⟩
  case round =>
    obtain ⟨j, out, rfl, hj, hj8, hol, HG, hown, hk⟩ := hrel
    obtain ⟨ao, co, rfl, hro, hno⟩ := own_form hown
    by_cases hlt : j < L.length
    · have hltI : (j : Int) < (L.length : Int) := by omega
      by_cases h8 : j < 8
      · have h8I : (j : Int) < 8 := by omega
        have HST := Lib.hid (fixGo_step (k := k) (out := out) hlt h8)
        obtain ⟨b, off, rfl, hb, q0, q1, q2, q3⟩ := (hr.keptNo hk).prop hlt
        have hx := HW.out _ (List.getElem_mem hlt)
        generalize L[j] = x at *
        obtain ⟨xi, xn, xa, xb⟩ := x
        dsimp only at q0 q1 q2 q3 hx
        have HFX : Hid (∀ wx, Calls Tryd.prog 73 #[.agg #[.int .u8 xi, .int .u32 xn, .string xa, .string xb], .int .i64 k] wx fun e w' => e = .returned (.agg #[.int .u8 (fxP k ⟨xi, xn, xa, xb⟩).id, .int .u32 (fxP k ⟨xi, xn, xa, xb⟩).n, .string (fxP k ⟨xi, xn, xa, xb⟩).a, .string (fxP k ⟨xi, xn, xa, xb⟩).b]) ∧ Kept No wx w') := Lib.hid (fun wx => rfix_any xi xn xa xb k wx hx.1 hx.2.1 hx.2.2.1 hx.2.2.2)
        have HQ : Hid ((fxP k ⟨xi, xn, xa, xb⟩).id < 256) := Lib.hid (by
          by_cases h0 : (fxP k ⟨xi, xn, xa, xb⟩).id = 0
          · omega
          · exact (fxP_ok (k := k) (p := ⟨xi, xn, xa, xb⟩) hx.2.1 h0).2.2.1)
        generalize fxP k ⟨xi, xn, xa, xb⟩ = P9 at *
        obtain ⟨q, N, A, B⟩ := P9
        dsimp only at HFX HST HQ
        clear hx
        go_wp2_with fail
        go_at_call 73
        refine (HFX.out wr).mono ?_
        rintro e w2 ⟨rfl, hk2⟩
        have hown2 := own_keptNo hown hk2
        have hsz2 := hk2.size
        by_cases h0 : q = 0
        · subst h0
          have HN : Hid (fixGo k [] (L.take 8) = none) := Lib.hid (by rw [HG.out, HST.out, if_pos rfl])
          have HR := Lib.hid (HFa.out HN.out)
          clear HST HG
          go_wp2
          go_ret
          rw [HR.out]
          exact ⟨none, 0, rfl, World.ownsRow_nil _ _ _ _, (hk.trans hk2).alloc _⟩
        have h0I : ((q : Int) == 0) = false := by simp; omega
        have HST2 : Hid (fixGo k out ((L.take 8).drop j) = if (getL out q).isSome && !oftenB q k then fixGo k out ((L.take 8).drop (j + 1)) else fixGo k (out ++ [⟨q, N, A, B⟩]) ((L.take 8).drop (j + 1))) := Lib.hid (by rw [HST.out, if_neg h0])
        have HGE : Hid (∀ (a : Option Addr) (c : Nat), ∃ i n A B, ∃ s, s = (getL out q).isSome ∧ ∀ w, Row w a (PC out) → Calls Tryd.prog 28 #[.slice a out.length c, .int .u8 q] w (fun e w' => e = .returned (.tuple #[.agg #[.int .u8 (i : Nat), .int .u32 (n : Nat), .string A, .string B], .bool s]) ∧ Kept No w w')) := Lib.hid (fun a c => rget_parts a c out q q rfl (by omega))
        have HOF := Lib.hid (fun wx => roften_any q k wx HQ.out)
        clear HST h0
        have hbx := Blk.new w2 58 #[.int .u8 q, .int .u32 N, .string A, .string B]
        have hka : Kept No w2 (w2.alloc (.cells #[.int .u8 q, .int .u32 N, .string A, .string B] 58)) := (Kept.refl No w2).alloc _
        obtain ⟨gi, gn, gA, gB, gs, hgs, HGC⟩ := HGE.out ao co
        have HGC := Lib.hid HGC
        have HGS := Lib.hid hgs
        clear hgs HGE
        go_wp2_with fail
        generalize hg7 : w2.heap.size = g7 at *
        generalize w2.alloc (.cells #[.int .u8 q, .int .u32 N, .string A, .string B] 58) = wa at *
        have hown3 := own_keptNo hown2 hka
        go_at_call 28
        refine (HGC.out wa (own_row hown3).1).mono ?_
        rintro e w3 ⟨rfl, hk3⟩
        have hb0 := (hbx.kept hk3 (fun f => f)).cell 0
        simp at hb0
        have hown4 := own_keptNo hown3 hk3
        have hbx3 := (hbx.kept hk3 (fun f => f)).alloc (.cells #[.int .u8 gi, .int .u32 gn, .string gA, .string gB] 58)
        have hkb : Kept No w3 (w3.alloc (.cells #[.int .u8 gi, .int .u32 gn, .string gA, .string gB] 58)) := (Kept.refl No w3).alloc _
        have hown5 := own_keptNo hown4 hkb
        have hkall := (((hk.trans hk2).trans hka).trans hk3).trans hkb
        have hza := hka.size
        have hz3 := hk3.size
        have hzb := hkb.size
        cases gs with
        | false =>
          have HNX : Hid (fixGo k [] (L.take 8) = fixGo k (out ++ [⟨q, N, A, B⟩]) ((L.take 8).drop (j + 1))) := Lib.hid (by rw [HG.out, HST2.out, ← HGS.out]; rfl)
          clear HST2 HGS HG HOF hown hown2 hown3 hown4 hk hk2 hka hk3 hkb hbx
          have b0 : (w3.alloc (.cells #[.int .u8 gi, .int .u32 gn, .string gA, .string gB] 58)).cell? ⟨g7, 0, none⟩ = some (.int .u8 q) := hbx3.cell 0
          have b1 : (w3.alloc (.cells #[.int .u8 gi, .int .u32 gn, .string gA, .string gB] 58)).cell? ⟨g7, 1, none⟩ = some (.int .u32 N) := hbx3.cell 1
          have b2 : (w3.alloc (.cells #[.int .u8 gi, .int .u32 gn, .string gA, .string gB] 58)).cell? ⟨g7, 2, none⟩ = some (.string A) := hbx3.cell 2
          have b3 : (w3.alloc (.cells #[.int .u8 gi, .int .u32 gn, .string gA, .string gB] 58)).cell? ⟨g7, 3, none⟩ = some (.string B) := hbx3.cell 3
          go_wp2_with (at_builtin; refine wpList_append_own _ rfl _ _ _ rfl w.heap.size 58 i0 _ 4 40 Tryd.underlying22 hi hz0 hz1 hz2 rfl (by decide) _ _ _ rfl (hown5.alloc _) ⟨w3.heap.size + 1, 0, none⟩ 1 1 (PC [⟨q, N, A, B⟩]) rfl ?c0 ?c1 (PC_cell1 _) ?c2 ?c3 ?c4 ?_; rotate_right; intro v3 w4 hown6 hg4 _)
          case c0 => exact PC_length4 [] _
          case c1 =>
            have := new_prop (w := (w3.alloc (.cells #[.int .u8 gi, .int .u32 gn, .string gA, .string gB] 58))) (t := 58) (p := ⟨q, N, A, B⟩)
            rw [World.size_alloc] at this
            exact this
          case c2 => unfold maxLen; omega
          case c3 => omega
          case c4 => have := hkall.size; rw [World.size_alloc] at this; simp; omega
          go_roundw
          case rel => exact ⟨j + 1, out ++ [⟨q, N, A, B⟩], by go_num, by omega, by omega, by simp; omega, HNX, by rw [PC_append, List.length_append]; exact hown6, (hkall.alloc _).grown hg4 (own_no hown5)⟩
          case measure => simp [intOf]; omega
        | true =>
          rcases hof : oftenB q k with _ | _
          · have HNX : Hid (fixGo k [] (L.take 8) = fixGo k out ((L.take 8).drop (j + 1))) := Lib.hid (by rw [HG.out, HST2.out, ← HGS.out, hof]; rfl)
            rw [hof] at HOF
            clear HST2 HGS HG hof hown hown2 hown3 hown4 hk hk2 hka hk3 hkb hbx
            have b0 : (w3.alloc (.cells #[.int .u8 gi, .int .u32 gn, .string gA, .string gB] 58)).cell? ⟨g7, 0, none⟩ = some (.int .u8 q) := hbx3.cell 0
            have b1 : (w3.alloc (.cells #[.int .u8 gi, .int .u32 gn, .string gA, .string gB] 58)).cell? ⟨g7, 1, none⟩ = some (.int .u32 N) := hbx3.cell 1
            have b2 : (w3.alloc (.cells #[.int .u8 gi, .int .u32 gn, .string gA, .string gB] 58)).cell? ⟨g7, 2, none⟩ = some (.string A) := hbx3.cell 2
            have b3 : (w3.alloc (.cells #[.int .u8 gi, .int .u32 gn, .string gA, .string gB] 58)).cell? ⟨g7, 3, none⟩ = some (.string B) := hbx3.cell 3
            go_wp2_with (go_at_call 71; refine (HOF.out _).mono ?_; rintro e w5 ⟨rfl, hk5⟩)
            go_roundw
            case rel => exact ⟨j + 1, out, by go_num, by omega, by omega, by omega, HNX, own_keptNo hown5 hk5, hkall.trans hk5⟩
            case measure => simp [intOf]; omega
          · have HNX : Hid (fixGo k [] (L.take 8) = fixGo k (out ++ [⟨q, N, A, B⟩]) ((L.take 8).drop (j + 1))) := Lib.hid (by rw [HG.out, HST2.out, ← HGS.out, hof]; rfl)
            rw [hof] at HOF
            clear HST2 HGS HG hof hown hown2 hown3 hown4 hk hk2 hka hk3 hkb hbx
            have b0 : (w3.alloc (.cells #[.int .u8 gi, .int .u32 gn, .string gA, .string gB] 58)).cell? ⟨g7, 0, none⟩ = some (.int .u8 q) := hbx3.cell 0
            have b1 : (w3.alloc (.cells #[.int .u8 gi, .int .u32 gn, .string gA, .string gB] 58)).cell? ⟨g7, 1, none⟩ = some (.int .u32 N) := hbx3.cell 1
            have b2 : (w3.alloc (.cells #[.int .u8 gi, .int .u32 gn, .string gA, .string gB] 58)).cell? ⟨g7, 2, none⟩ = some (.string A) := hbx3.cell 2
            have b3 : (w3.alloc (.cells #[.int .u8 gi, .int .u32 gn, .string gA, .string gB] 58)).cell? ⟨g7, 3, none⟩ = some (.string B) := hbx3.cell 3
            go_wp2_with (first
              | (go_at_call 71; refine (HOF.out _).mono ?_; rintro e w5 ⟨rfl, hk5⟩; have d0 : w5.cell? ⟨g7, 0, none⟩ = some (.int .u8 q) := (hbx3.kept hk5 (fun f => f)).cell 0; have d1 : w5.cell? ⟨g7, 1, none⟩ = some (.int .u32 N) := (hbx3.kept hk5 (fun f => f)).cell 1; have d2 : w5.cell? ⟨g7, 2, none⟩ = some (.string A) := (hbx3.kept hk5 (fun f => f)).cell 2; have d3 : w5.cell? ⟨g7, 3, none⟩ = some (.string B) := (hbx3.kept hk5 (fun f => f)).cell 3; have hown5b := own_keptNo hown5 hk5)
              | (at_builtin; refine wpList_append_own _ rfl _ _ _ rfl w.heap.size 58 i0 _ 4 40 Tryd.underlying22 hi hz0 hz1 hz2 rfl (by decide) _ _ _ rfl (hown5b.alloc _) ⟨w5.heap.size, 0, none⟩ 1 1 (PC [⟨q, N, A, B⟩]) rfl ?c0 ?c1 (PC_cell1 _) ?c2 ?c3 ?c4 ?_; rotate_right; intro v3 w4 hown6 hg4 _))
            case c0 => exact PC_length4 [] _
            case c1 => exact new_prop (p := ⟨q, N, A, B⟩)
            case c2 => unfold maxLen; omega
            case c3 => omega
            case c4 => have := (hkall.trans hk5).size; simp; omega
            go_roundw
            case rel => exact ⟨j + 1, out ++ [⟨q, N, A, B⟩], by go_num, by omega, by omega, by simp; omega, HNX, by rw [PC_append, List.length_append]; exact hown6, ((hkall.trans hk5).alloc _).grown hg4 (own_no hown5b)⟩
            case measure => simp [intOf]; omega
      · have h8I : ¬ (j : Int) < 8 := by omega
        have HFN : Hid (RES = sortL (addM out)) := Lib.hid (HF6.out out (by rw [HG.out, List.drop_eq_nil_of_le (by rw [List.length_take]; omega)]; rfl))
        have HPA := Lib.hid (rget_parts ao co out 22 22 rfl (by omega))
        obtain ⟨e1, e2, e3, e4, s22, hs22, HGD⟩ := HPA.out
        have HGD := Lib.hid HGD
        have HPB := Lib.hid (rget_parts ao co out 21 21 rfl (by omega))
        obtain ⟨f1, f2, f3, f4, s21, hs21, HGM⟩ := HPB.out
        have HGM := Lib.hid HGM
        have HAD : Hid (addM out = if s22 && !s21 then out ++ [m21] else out) := Lib.hid (by unfold addM; rw [hs22, hs21])
        clear hs22 hs21 HPA HPB HG HF6
        go_wp2_with fail
        go_at_call 28
        refine (HGD.out wr hro).mono ?_
        rintro e x1 ⟨rfl, j1⟩
        have own1 := own_keptNo (own_keptNo hown j1) ((Kept.refl No x1).alloc (.cells #[.int .u8 e1, .int .u32 e2, .string e3, .string e4] 58))
        have jj1 := (hk.trans j1).alloc (.cells #[.int .u8 e1, .int .u32 e2, .string e3, .string e4] 58)
        cases s22 with
        | false =>
          have HE : Hid (RES = sortL out) := Lib.hid (by rw [HFN.out, HAD.out]; rfl)
          go_wp2_with fail
          generalize x1.alloc (.cells #[.int .u8 e1, .int .u32 e2, .string e3, .string e4] 58) = x2 at *
          go_at_call 21
          refine (rsort_own ao co out x2 (own_row own1).1 hno (by omega)).mono ?_
          rintro e x3 ⟨a9, c9, rfl, h5, h6⟩
          go_wp2_with fail
          go_ret
          rw [HE.out]
          exact ⟨a9, c9, by rw [sortL_length]; first | rfl | skip, by rw [sortL_length]; exact own_mono h5 jj1.size, jj1.trans h6⟩
        | true =>
          go_wp2_with fail
          generalize x1.alloc (.cells #[.int .u8 e1, .int .u32 e2, .string e3, .string e4] 58) = x2 at *
          go_at_call 28
          refine (HGM.out x2 (own_row own1).1).mono ?_
          rintro e x3 ⟨rfl, j3⟩
          have own3 := own_keptNo (own_keptNo own1 j3) ((Kept.refl No x3).alloc (.cells #[.int .u8 f1, .int .u32 f2, .string f3, .string f4] 58))
          have jj3 := (jj1.trans j3).alloc (.cells #[.int .u8 f1, .int .u32 f2, .string f3, .string f4] 58)
          cases s21 with
          | true =>
            have HE : Hid (RES = sortL out) := Lib.hid (by rw [HFN.out, HAD.out]; rfl)
            go_wp2_with fail
            generalize x3.alloc (.cells #[.int .u8 f1, .int .u32 f2, .string f3, .string f4] 58) = x4 at *
            go_at_call 21
            refine (rsort_own ao co out x4 (own_row own3).1 hno (by omega)).mono ?_
            rintro e x5 ⟨a9, c9, rfl, h5, h6⟩
            go_wp2_with fail
            go_ret
            rw [HE.out]
            exact ⟨a9, c9, by rw [sortL_length]; first | rfl | skip, by rw [sortL_length]; exact own_mono h5 jj3.size, jj3.trans h6⟩
          | false =>
            have HE : Hid (RES = sortL (out ++ [m21])) := Lib.hid (by rw [HFN.out, HAD.out]; rfl)
            go_wp2_with fail
            generalize x3.alloc (.cells #[.int .u8 f1, .int .u32 f2, .string f3, .string f4] 58) = x4 at *
            go_at_call 74
            refine (fix_any ⟨#[109]⟩ x4 (by decide)).mono ?_
            rintro e x5 ⟨rfl, j5⟩
            have own5 := own_keptNo own3 j5
            have jj5 := jj3.trans j5
            generalize hfm : fixS ⟨#[109]⟩ = FM at *
            have HFM := Lib.hid hfm
            clear hfm
            go_wp2_with (at_builtin; refine wpList_append_own _ rfl _ _ _ rfl w.heap.size 58 i0 _ 4 40 Tryd.underlying22 hi hz0 hz1 hz2 rfl (by decide) _ _ _ rfl (own5.alloc _) ⟨x5.heap.size, 0, none⟩ 1 1 (PC [⟨21, 0, FM, ⟨#[]⟩⟩]) rfl ?c0 ?c1 (PC_cell1 _) ?c2 ?c3 ?c4 ?_; rotate_right; intro v3 x6 own6 hg6 _)
            case c0 => exact PC_length4 [] _
            case c1 => exact new_prop (p := ⟨21, 0, FM, ⟨#[]⟩⟩)
            case c2 => unfold maxLen; omega
            case c3 => omega
            case c4 => have := jj5.size; simp; omega
            have jj6 := (jj5.alloc _).grown hg6 (own_no own5)
            rw [← PC_append] at own6
            have HM : Hid (out ++ [⟨21, 0, FM, ⟨#[]⟩⟩] = out ++ [m21]) := Lib.hid (by rw [← HFM.out]; rfl)
            rw [HM.out] at own6
            obtain ⟨a7, c7, rfl, hr7, hn7⟩ := own_form own6
            have hl7 : out.length + 1 = (out ++ [m21]).length := by simp
            have HS7 := Lib.hid (rsort_own a7 c7 (out ++ [m21]) x6 hr7 (fun h => by rw [← hl7]; exact hn7 h) (by rw [← hl7]; omega))
            rw [← hl7] at HS7
            go_wp2_with fail
            go_at_call 21
            refine HS7.out.mono ?_
            rintro e x7 ⟨a9, c9, rfl, h5, h6⟩
            dsimp only
            go_wp2_with fail
            go_ret
            rw [HE.out]
            exact ⟨a9, c9, by rw [sortL_length, ← hl7]; first | rfl | skip, by rw [sortL_length, ← hl7]; exact own_mono h5 jj6.size, jj6.trans h6⟩
    · have hltI : ¬ (j : Int) < (L.length : Int) := by omega
      have HFN : Hid (RES = sortL (addM out)) := Lib.hid (HF6.out out (by rw [HG.out, List.drop_eq_nil_of_le (by rw [List.length_take]; omega)]; rfl))
      have HPA := Lib.hid (rget_parts ao co out 22 22 rfl (by omega))
      obtain ⟨e1, e2, e3, e4, s22, hs22, HGD⟩ := HPA.out
      have HGD := Lib.hid HGD
      have HPB := Lib.hid (rget_parts ao co out 21 21 rfl (by omega))
      obtain ⟨f1, f2, f3, f4, s21, hs21, HGM⟩ := HPB.out
      have HGM := Lib.hid HGM
      have HAD : Hid (addM out = if s22 && !s21 then out ++ [m21] else out) := Lib.hid (by unfold addM; rw [hs22, hs21])
      clear hs22 hs21 HPA HPB HG HF6
      go_wp2_with fail
      go_at_call 28
      refine (HGD.out wr hro).mono ?_
      rintro e x1 ⟨rfl, j1⟩
      have own1 := own_keptNo (own_keptNo hown j1) ((Kept.refl No x1).alloc (.cells #[.int .u8 e1, .int .u32 e2, .string e3, .string e4] 58))
      have jj1 := (hk.trans j1).alloc (.cells #[.int .u8 e1, .int .u32 e2, .string e3, .string e4] 58)
      cases s22 with
      | false =>
        have HE : Hid (RES = sortL out) := Lib.hid (by rw [HFN.out, HAD.out]; rfl)
        go_wp2_with fail
        generalize x1.alloc (.cells #[.int .u8 e1, .int .u32 e2, .string e3, .string e4] 58) = x2 at *
        go_at_call 21
        refine (rsort_own ao co out x2 (own_row own1).1 hno (by omega)).mono ?_
        rintro e x3 ⟨a9, c9, rfl, h5, h6⟩
        go_wp2_with fail
        go_ret
        rw [HE.out]
        exact ⟨a9, c9, by rw [sortL_length]; first | rfl | skip, by rw [sortL_length]; exact own_mono h5 jj1.size, jj1.trans h6⟩
      | true =>
        go_wp2_with fail
        generalize x1.alloc (.cells #[.int .u8 e1, .int .u32 e2, .string e3, .string e4] 58) = x2 at *
        go_at_call 28
        refine (HGM.out x2 (own_row own1).1).mono ?_
        rintro e x3 ⟨rfl, j3⟩
        have own3 := own_keptNo (own_keptNo own1 j3) ((Kept.refl No x3).alloc (.cells #[.int .u8 f1, .int .u32 f2, .string f3, .string f4] 58))
        have jj3 := (jj1.trans j3).alloc (.cells #[.int .u8 f1, .int .u32 f2, .string f3, .string f4] 58)
        cases s21 with
        | true =>
          have HE : Hid (RES = sortL out) := Lib.hid (by rw [HFN.out, HAD.out]; rfl)
          go_wp2_with fail
          generalize x3.alloc (.cells #[.int .u8 f1, .int .u32 f2, .string f3, .string f4] 58) = x4 at *
          go_at_call 21
          refine (rsort_own ao co out x4 (own_row own3).1 hno (by omega)).mono ?_
          rintro e x5 ⟨a9, c9, rfl, h5, h6⟩
          go_wp2_with fail
          go_ret
          rw [HE.out]
          exact ⟨a9, c9, by rw [sortL_length]; first | rfl | skip, by rw [sortL_length]; exact own_mono h5 jj3.size, jj3.trans h6⟩
        | false =>
          have HE : Hid (RES = sortL (out ++ [m21])) := Lib.hid (by rw [HFN.out, HAD.out]; rfl)
          go_wp2_with fail
          generalize x3.alloc (.cells #[.int .u8 f1, .int .u32 f2, .string f3, .string f4] 58) = x4 at *
          go_at_call 74
          refine (fix_any ⟨#[109]⟩ x4 (by decide)).mono ?_
          rintro e x5 ⟨rfl, j5⟩
          have own5 := own_keptNo own3 j5
          have jj5 := jj3.trans j5
          generalize hfm : fixS ⟨#[109]⟩ = FM at *
          have HFM := Lib.hid hfm
          clear hfm
          go_wp2_with (at_builtin; refine wpList_append_own _ rfl _ _ _ rfl w.heap.size 58 i0 _ 4 40 Tryd.underlying22 hi hz0 hz1 hz2 rfl (by decide) _ _ _ rfl (own5.alloc _) ⟨x5.heap.size, 0, none⟩ 1 1 (PC [⟨21, 0, FM, ⟨#[]⟩⟩]) rfl ?c0 ?c1 (PC_cell1 _) ?c2 ?c3 ?c4 ?_; rotate_right; intro v3 x6 own6 hg6 _)
          case c0 => exact PC_length4 [] _
          case c1 => exact new_prop (p := ⟨21, 0, FM, ⟨#[]⟩⟩)
          case c2 => unfold maxLen; omega
          case c3 => omega
          case c4 => have := jj5.size; simp; omega
          have jj6 := (jj5.alloc _).grown hg6 (own_no own5)
          rw [← PC_append] at own6
          have HM : Hid (out ++ [⟨21, 0, FM, ⟨#[]⟩⟩] = out ++ [m21]) := Lib.hid (by rw [← HFM.out]; rfl)
          rw [HM.out] at own6
          obtain ⟨a7, c7, rfl, hr7, hn7⟩ := own_form own6
          have hl7 : out.length + 1 = (out ++ [m21]).length := by simp
          have HS7 := Lib.hid (rsort_own a7 c7 (out ++ [m21]) x6 hr7 (fun h => by rw [← hl7]; exact hn7 h) (by rw [← hl7]; omega))
          rw [← hl7] at HS7
          go_wp2_with fail
          go_at_call 21
          refine HS7.out.mono ?_
          rintro e x7 ⟨a9, c9, rfl, h5, h6⟩
          dsimp only
          go_wp2_with fail
          go_ret
          rw [HE.out]
          exact ⟨a9, c9, by rw [sortL_length, ← hl7]; first | rfl | skip, by rw [sortL_length, ← hl7]; exact own_mono h5 jj6.size, jj6.trans h6⟩

end Go.Proofs.YtfcgfkgibimffaaDoor
