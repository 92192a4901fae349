/-
  ids.Turn: made by mkidl.py.
-/
import Derived.Test.YtlgbljohhnhhkaaIdJ
import Derived.Deep.RegionHeld3
namespace Go.Proofs.Ytlgbljohhnhhkaa
open Go.RowKit
set_option linter.unusedVariables false
set_option linter.unusedSimpArgs false
set_option maxRecDepth 100000

theorem turn_no {L : List Rw} {k n : Int} {i : Nat} {f : Bool} {o : Option Rw} (hz : ansZ k ≠ 0) (ho : ofL L i = o) (h : okAt o k n = false) : turnR L k i f n = (L, 8) := by
  unfold turnR
  rw [if_neg hz, ho, if_pos h]
theorem turn_yes {L : List Rw} {k n : Int} {i : Nat} {f : Bool} {o : Option Rw} (hz : ansZ k ≠ 0) (ho : ofL L i = o) (h : okAt o k n = true) : turnR L k i f n = (putR L i (if folZ k f = 0 then none else some ⟨i, folZ k f, 0⟩), 0) := by
  unfold turnR
  rw [if_neg hz, ho, if_neg (by rw [h]; simp)]
theorem fol_cou {k : Int} {f : Bool} (h : couB (ansZ k) = true) : folZ k f = 0 := by
  unfold couB ansZ at h
  unfold folZ
  simp at h
  split
  · omega
  · split
    · omega
    · rfl
theorem fol_st {k : Int} {f : Bool} (h : folZ k f ≠ 0) : ansZ k = 2 ∨ ansZ k = 3 := by
  unfold folZ at h
  unfold ansZ
  split at h
  · omega
  · split at h <;> omega

theorem own_at {w : World} {base c n : Nat} {e : TypeId} {a : Option Addr} {L : List Rw} (h : w.ownsRow base e 3 (.slice a n c) n (RC L)) {k : Nat} (hk : k < n) :
    ∃ g, a = some ⟨g, 0, none⟩ ∧ base ≤ g ∧ (∃ u, w.cell? ⟨g, k * 3 + 1, none⟩ = some u) ∧ w.frozen? ⟨g, k * 3 + 1, none⟩ = false ∧ g < w.heap.size := by
  have hL : L.length = n := by have := h.1; rw [RC_length] at this; omega
  have hr := (own_row h).1
  obtain ⟨_, hv | ⟨g, cap, cur, hv, hg, hb, hn, hm, hs, hx⟩⟩ := h
  · omega
  injection hv with e1 e2 e3
  subst e1
  have hB : Blk w g e cur := hb
  obtain ⟨b, off, ha, _, _, q1, _⟩ := hr.rw3 (k := k) (by omega)
  injection ha with ha
  injection ha with e4 e5
  subst e4 e5
  rw [Nat.zero_add] at q1
  exact ⟨g, rfl, hg, ⟨_, q1⟩, hB.frozen _, hB.lt⟩
set_option maxHeartbeats 4000000 in
theorem iturn_any (a : Option Addr) (c : Nat) (L : List Rw) (k : Int) (i : Nat) (f : Bool) (n : Int) (w : World) (ht : Tb w a c L) (hR : rightGo 0 L = true) (hl : L.length ≤ 1000) :
    Calls Try.prog 14 #[.slice a L.length c, .int .i64 k, .int .u16 i, .bool f, .int .i64 n] w (TabIs (turnR L k i f n) w) := by
  have hc := cut_of i (asc_of hR)
  have cF := (fun wx h => find_any a c L _ _ _ i hc wx h (by omega))
  have HCL := Lib.hid (fun wx (h : Tb wx a c L) => iclone_any a c L wx h.row h.nil (by omega))
  have cA := fun wx => answered_any k wx
  have HFO0 := Lib.hid (fun wx => follows_any k f wx)
  have hk2 := Kept.refl No w
  by_cases hz : ansZ k = 0
  · have HN : Hid (turnR L k i f n = (L, 1)) := Lib.hid (by unfold turnR; rw [if_pos hz])
    generalize turnR L k i f n = R at *
    rw [hz] at cA
    have HAN := Lib.hid cA
    clear cA cF hc hz hR HFO0
    go_enter Try.func14, Try.ntmps14
    go_wp2_with (first
      | (go_at_call 27; refine (HAN.out _).mono ?_; rintro e w3 ⟨rfl, rfl⟩)
      | (go_at_call 24; refine (HCL.out _ (ht.keptNo hk2)).mono ?_; rintro e w4 ⟨a4, c4, rfl, hown4, hk4⟩))
    go_ret2
    exact tabIs_of HN.out (own_tb hown4) (hk2.trans hk4)
  clear hk2
  have hzI : (ansZ k == 0) = false := by simpa using hz
  have HCO0 := Lib.hid (fun wx => counts_any (ansZ k) wx)
  have hlen := congrArg List.length hc.all
  simp only [List.length_append] at hlen
  have hNl : (loL L i).length ≤ 1000 := by omega
  generalize hu : ofL L i = o at *
  cases o with
  | none =>
    have HN := Lib.hid (turn_no (f := f) (n := n) hz hu rfl)
    have HF := Lib.hid (show ∀ wx, Row wx a (RC L) → Calls Try.prog 22 #[.slice a L.length c, .int .u16 i] wx (FindIs (loL L i).length false wx) from cF)
    generalize turnR L k i f n = R at *
    generalize ansZ k = z at *
    generalize (loL L i).length = N at *
    have HAN := Lib.hid cA
    have HCO := HCO0
    have HFO := HFO0
    clear cA cF hc hz hR hu hlen HCO0 HFO0
    go_enter Try.func14, Try.ntmps14
    go_wp2_with (first
      | (go_at_call 27; refine (HAN.out _).mono ?_; rintro e w3 ⟨rfl, rfl⟩)
      | (go_at_call 22; refine (HF.out _ ht.row).mono ?_; rintro e w2 ⟨rfl, hk2⟩)
      | (go_at_call 28; refine (HCO.out _).mono ?_; rintro e w3 ⟨rfl, rfl⟩)
      | (go_at_call 29; refine (HFO.out _).mono ?_; rintro e w3 ⟨rfl, rfl⟩)
      | (go_at_call 24; refine (HCL.out _ (ht.keptNo hk2)).mono ?_; rintro e w4 ⟨a4, c4, rfl, hown4, hk4⟩))
    go_ret2
    exact tabIs_of HN.out (own_tb hown4) (hk2.trans hk4)
  | some r =>
    have HF0 := Lib.hid (show ∀ wx, Row wx a (RC L) → Calls Try.prog 22 #[.slice a L.length c, .int .u16 i] wx (FindIs (loL L i).length true wx) from cF)
    have hall : L = loL L i ++ (r :: hiL L i) := hc.all
    have hrid := hc.at_ r rfl
    have hfit := fits_all hR r (by rw [hall]; simp)
    have hputD : putR L i none = loL L i ++ hiL L i := rfl
    have hputS : ∀ x, putR L i (some x) = loL L i ++ x :: hiL L i := fun _ => rfl
    generalize loL L i = A at *
    generalize hiL L i = C at *
    have hNL : A.length < L.length := by rw [hall]; simp
    obtain ⟨b, off, rfl, hb, q0, q1, q2⟩ := ht.row.rw3 hNL
    have hLr : L[A.length] = r := by
      subst hall
      rw [List.getElem_append_right (Nat.le_refl _)]
      simp
    rw [hLr] at q0 q1 q2
    clear hLr
    obtain ⟨id, st, rn⟩ := r
    obtain rfl : id = i := hrid
    dsimp only at q0 q1 q2 hfit
    have HQ := Lib.hid (And.intro q0 (And.intro q1 q2))
    have HFIT := Lib.hid hfit
    have HALL := Lib.hid hall
    have HPD := Lib.hid (And.intro hputD hputS)
    have HNY := Lib.hid (fun h => turn_no (f := f) (n := n) hz hu h)
    have HYE := Lib.hid (fun h => turn_yes (f := f) (n := n) hz hu h)
    have hok : okAt (some ⟨id, st, rn⟩) k n = (decide (st = ansZ k) && (!couB (ansZ k) || decide (rn = n))) := rfl
    have HFC := Lib.hid (fol_cou (k := k) (f := f))
    have HFS := Lib.hid (fol_st (k := k) (f := f))
    rw [hok] at HNY HYE
    have hcap := ht.cap
    have hNL2 := congrArg List.length HALL.out
    rw [List.length_append, List.length_cons] at hNL2
    obtain ⟨N, hN⟩ : ∃ N, N = A.length := ⟨_, rfl⟩
    obtain ⟨NC, hNC⟩ : ∃ N, N = C.length := ⟨_, rfl⟩
    rw [← hN] at HF0 HQ hNl hNL hNL2
    rw [← hNC] at hNL2
    have HNN := Lib.hid (And.intro hN hNC)
    clear hok hfit hall hputD hputS hc hlen hN hNC cF q0 q1 q2 hu
    generalize hRR : turnR L k id f n = R at *
    clear hRR
    have HZ := Lib.hid hz
    clear hz
    generalize hzz : ansZ k = z at *
    clear hzz
    generalize hyy : folZ k f = y at *
    clear hyy
    have HAN := Lib.hid cA
    have HF := HF0
    have HFO := HFO0
    clear cA HF0 HFO0
    have hNLI : (N : Int) < (L.length : Int) := by omega
    have hNcI : (N : Int) ≤ (c : Int) := by omega
    have hN1cI : (N : Int) + 1 ≤ (c : Int) := by omega
    have HLN := Lib.hid hNL2
    have HLC := Lib.hid (show NC ≤ 1000 by omega)
    clear hNL2
    by_cases hs : st = z
    · subst hs
      cases hco : couB st with
      | true =>
        have hy0 : y = 0 := HFC.out hco
        subst hy0
        rw [hco] at HCO0 HNY HYE
        have HCO := HCO0
        by_cases hn : rn = n
        · subst hn
          have HN2 := Lib.hid (HYE.out (by simp))
          clear HNY HYE HFC HFS hco HCO0
          have hputN : R = (A ++ C, 0) := by rw [HN2.out, if_pos rfl, HPD.out.1]
          have hrC : ∀ wx, Kept No w wx → Row wx (offA (some ⟨b, off, none⟩) c (N + 1)) (RC C) := fun wx hk => (by
            have h1 := ht.row.keptNo hk
            rw [HALL.out, show A ++ (⟨id, st, rn⟩ : Rw) :: C = (A ++ [⟨id, st, rn⟩]) ++ C by simp] at h1
            have h2 := row_right (c := c) h1 (by have := HALL.out; have h9 := congrArg List.length this; simp at h9 ⊢; omega)
            rwa [show (A ++ [(⟨id, st, rn⟩ : Rw)]).length = N + 1 by rw [HNN.out.1]; simp] at h2)
          have hrA : ∀ wx, Kept No w wx → Row wx (some ⟨b, off, none⟩) (RC A) := fun wx hk => (by have := ht.row.keptNo hk; rw [HALL.out] at this; exact row_left this)
          obtain ⟨M, hM⟩ : ∃ M, M = A ++ C := ⟨_, rfl⟩
          have cCC := (fun wx g2 hk h2 => concat2 (some ⟨b, off, none⟩) (offA (some ⟨b, off, none⟩) c (N + 1)) c (c - (N + 1)) A C g2 N NC wx HNN.out.1 HNN.out.2 h2 (hrA wx hk) (hrC wx hk) (fun h => by cases h) (fun h => by have := offA_none h; cases this) (by have := HNN.out.1; omega) (by have := HNN.out.2; have := HLC.out; omega))
          rw [← hM] at cCC hputN
          have HN := Lib.hid hputN
          have HCC := Lib.hid cCC
          clear hputN hrC hrA cCC hM HN2
          go_enter Try.func14, Try.ntmps14
          go_wp2_with (first
            | (go_at_call 27; refine (HAN.out _).mono ?_; rintro e w3 ⟨rfl, rfl⟩)
            | (go_at_call 22; refine (HF.out _ ht.row).mono ?_; rintro e w2 ⟨rfl, hk2⟩; have q1 := (hk2.cell (p := ⟨b, off + N * 3 + 1, none⟩) hb (fun f => f)).trans HQ.out.2.1; have q2 := (hk2.cell (p := ⟨b, off + N * 3 + 2, none⟩) hb (fun f => f)).trans HQ.out.2.2)
            | (go_at_call 28; refine (HCO.out _).mono ?_; rintro e w3 ⟨rfl, rfl⟩)
            | (go_at_call 29; refine (HFO.out _).mono ?_; rintro e w3 ⟨rfl, rfl⟩)
            | (go_at_call 24; refine (HCL.out _ (ht.keptNo hk2)).mono ?_; rintro e w4 ⟨a4, c4, rfl, hown4, hk4⟩))
          refine wp_region_held_drew (S := (fun wx => Kept No w wx)) (by kernel_rfl) ?_ (fun hHeld => ?_)
          · exact hk2.drew
          refine wpAnyH_take (i := 0) (v := (.slice (some ⟨b, off, none⟩) L.length c)) rfl (by kernel_rfl) (by kernel_rfl) (by kernel_rfl) (fun _ _ _ h => h) (Or.inl ⟨by rfl, ?hhda0⟩) (by assumption) ?rrda0
          case hhda0 => (intro wz9 hSw; (try dsimp only at hSw); go_simp; try with_reducible rfl)
          go_simp
          refine wpAnyH_take (i := 1) (v := (.int .i64 (N : Int))) rfl (by kernel_rfl) (by kernel_rfl) (by kernel_rfl) (fun _ _ _ h => h) (Or.inl ⟨by rfl, ?hhda1⟩) (by assumption) ?rrda1
          case hhda1 => (intro wz9 hSw; (try dsimp only at hSw); go_simp; try with_reducible rfl)
          go_simp
          refine wpAnyH_take (i := 2) (v := (.slice (some ⟨b, off, none⟩) N c)) rfl (by kernel_rfl) (by kernel_rfl) (by kernel_rfl) (fun _ _ _ h => h) (Or.inl ⟨by rfl, ?hhda2⟩) (by assumption) ?rrda2
          case hhda2 => (intro wz9 hSw; (try dsimp only at hSw); go_simp; try with_reducible rfl)
          go_simp
          refine wpAnyH_take (i := 3) (v := (.slice (some ⟨b, off, none⟩) L.length c)) rfl (by kernel_rfl) (by kernel_rfl) (by kernel_rfl) (fun _ _ _ h => h) (Or.inl ⟨by rfl, ?hhda3⟩) (by assumption) ?rrda3
          case hhda3 => (intro wz9 hSw; (try dsimp only at hSw); go_simp; try with_reducible rfl)
          go_simp
          refine wpAnyH_take (i := 4) (v := (.int .i64 (N : Int))) rfl (by kernel_rfl) (by kernel_rfl) (by kernel_rfl) (fun _ _ _ h => h) (Or.inl ⟨by rfl, ?hhda4⟩) (by assumption) ?rrda4
          case hhda4 => (intro wz9 hSw; (try dsimp only at hSw); go_simp; try with_reducible rfl)
          go_simp
          refine wpAnyH_take (i := 5) (v := (.int .i64 ((N : Int) + 1))) rfl (by kernel_rfl) (by kernel_rfl) (by kernel_rfl) (fun _ _ _ h => h) (Or.inl ⟨by rfl, ?hhda5⟩) (by assumption) ?rrda5
          case hhda5 => (intro wz9 hSw; clear hSw; go_simp; rw [IntKind.wrap_i64]; omega)
          go_simp
          refine wpAnyH_take (i := 6) (v := (.slice (offA (some ⟨b, off, none⟩) c (N + 1)) NC (c - (N + 1)))) rfl (by kernel_rfl) (by kernel_rfl) (by kernel_rfl) (fun _ _ _ h => h) (Or.inl ⟨by rfl, ?hhda6⟩) (by assumption) ?rrda6
          case hhda6 => (intro wz9 hSw; clear hSw; go_simp; rw [if_pos ⟨by omega, by omega⟩, show L.length - (N + 1) = NC by have := HLN.out; omega]; rfl)
          go_simp
          refine wpAnyH_ready (rs := [7]) (by kernel_rfl) (by simp) ?_
          refine AllReadyH.cons rfl (fun K9 hK9 => ?_) AllReadyH.nil
          first | go_simp | skip
          have hkw6 : Kept No w ((w2.alloc (.cells #[.slice (some ⟨b, off, none⟩) N c, .slice (offA (some ⟨b, off, none⟩) c (N + 1)) NC (c - (N + 1))] 26)).drew) := (hk2.alloc _).drew
          have hbg2 : Blk ((w2.alloc (.cells #[.slice (some ⟨b, off, none⟩) N c, .slice (offA (some ⟨b, off, none⟩) c (N + 1)) NC (c - (N + 1))] 26)).drew) w2.heap.size 26 #[.slice (some ⟨b, off, none⟩) N c, .slice (offA (some ⟨b, off, none⟩) c (N + 1)) NC (c - (N + 1))] := Blk.new w2 26 #[.slice (some ⟨b, off, none⟩) N c, .slice (offA (some ⟨b, off, none⟩) c (N + 1)) NC (c - (N + 1))]
          obtain ⟨g2, hg2⟩ : ∃ g, g = w2.heap.size := ⟨_, rfl⟩
          rw [← hg2] at hbg2
          rw [← hg2]
          clear hg2
          have hkw6p : Kept No w2 ((w2.alloc (.cells #[.slice (some ⟨b, off, none⟩) N c, .slice (offA (some ⟨b, off, none⟩) c (N + 1)) NC (c - (N + 1))] 26)).drew) := ((Kept.refl No w2).alloc _).drew
          generalize (w2.alloc (.cells #[.slice (some ⟨b, off, none⟩) N c, .slice (offA (some ⟨b, off, none⟩) c (N + 1)) NC (c - (N + 1))] 26)).drew = w6 at *
          refine hK9.out _ _ ?_ (fun hHeld2 => ?_)
          · exact hkw6
          clear hK9 K9 hHeld2
          refine wpAnyH_ready (rs := [8]) (by kernel_rfl) (by simp) ?_
          refine AllReadyH.cons rfl (fun K9 hK9 => ?_) AllReadyH.nil
          go_simp
          go_wp2_with (go_at_call 25; refine (HCC.out _ g2 hkw6 hbg2).mono ?_; rintro e w7 ⟨a7, c7, rfl, hown7, hk7⟩)
          have hkw7 := hkw6.trans hk7
          refine hK9.out _ _ ?_ (fun hHeld2 => ?_)
          · exact hkw7
          clear hK9 K9
          refine wpAnyH_take (i := 9) (v := .slice a7 M.length c7) rfl (by kernel_rfl) (by kernel_rfl) (by kernel_rfl) (fun _ _ _ h => h) (Or.inl ⟨by rfl, ?hh9da⟩) (by assumption) ?rr9da
          case hh9da => (intro wz9 hSw; (try dsimp only at hSw); go_simp; try with_reducible rfl)
          go_simp
          refine wpAnyH_take (i := 10) (v := .int .i64 0) rfl (by kernel_rfl) (by kernel_rfl) (by kernel_rfl) (fun _ _ _ h => h) (Or.inl ⟨by rfl, ?hh10da⟩) (by assumption) ?rr10da
          case hh10da => (intro wz9 hSw; (try dsimp only at hSw); go_simp; try with_reducible rfl)
          go_simp
          refine wpAnyH_done (by kernel_rfl) ?_ _
          go_wp2
          go_ret2
          exact tabIs_of HN.out (own_tb hown7) hHeld2
        · have HN := Lib.hid (HNY.out (by simp [hn]))
          have hnI : (rn != n) = true := by simpa using hn
          clear HNY HYE HFC HFS hco HCO0 hn
          go_enter Try.func14, Try.ntmps14
          go_wp2_with (first
            | (go_at_call 27; refine (HAN.out _).mono ?_; rintro e w3 ⟨rfl, rfl⟩)
            | (go_at_call 22; refine (HF.out _ ht.row).mono ?_; rintro e w2 ⟨rfl, hk2⟩; have q1 := (hk2.cell (p := ⟨b, off + N * 3 + 1, none⟩) hb (fun f => f)).trans HQ.out.2.1; have q2 := (hk2.cell (p := ⟨b, off + N * 3 + 2, none⟩) hb (fun f => f)).trans HQ.out.2.2)
            | (go_at_call 28; refine (HCO.out _).mono ?_; rintro e w3 ⟨rfl, rfl⟩)
            | (go_at_call 29; refine (HFO.out _).mono ?_; rintro e w3 ⟨rfl, rfl⟩)
            | (go_at_call 24; refine (HCL.out _ (ht.keptNo hk2)).mono ?_; rintro e w4 ⟨a4, c4, rfl, hown4, hk4⟩))
          go_ret2
          exact tabIs_of HN.out (own_tb hown4) (hk2.trans hk4)
      | false =>
        rw [hco] at HCO0 HNY HYE
        have HCO := HCO0
        have HN2 := Lib.hid (HYE.out (by simp))
        by_cases hy : y = 0
        · subst hy
          clear HNY HYE HFC HFS hco HCO0
          have hputN : R = (A ++ C, 0) := by rw [HN2.out, if_pos rfl, HPD.out.1]
          have hrC : ∀ wx, Kept No w wx → Row wx (offA (some ⟨b, off, none⟩) c (N + 1)) (RC C) := fun wx hk => (by
            have h1 := ht.row.keptNo hk
            rw [HALL.out, show A ++ (⟨id, st, rn⟩ : Rw) :: C = (A ++ [⟨id, st, rn⟩]) ++ C by simp] at h1
            have h2 := row_right (c := c) h1 (by have := HALL.out; have h9 := congrArg List.length this; simp at h9 ⊢; omega)
            rwa [show (A ++ [(⟨id, st, rn⟩ : Rw)]).length = N + 1 by rw [HNN.out.1]; simp] at h2)
          have hrA : ∀ wx, Kept No w wx → Row wx (some ⟨b, off, none⟩) (RC A) := fun wx hk => (by have := ht.row.keptNo hk; rw [HALL.out] at this; exact row_left this)
          obtain ⟨M, hM⟩ : ∃ M, M = A ++ C := ⟨_, rfl⟩
          have cCC := (fun wx g2 hk h2 => concat2 (some ⟨b, off, none⟩) (offA (some ⟨b, off, none⟩) c (N + 1)) c (c - (N + 1)) A C g2 N NC wx HNN.out.1 HNN.out.2 h2 (hrA wx hk) (hrC wx hk) (fun h => by cases h) (fun h => by have := offA_none h; cases this) (by have := HNN.out.1; omega) (by have := HNN.out.2; have := HLC.out; omega))
          rw [← hM] at cCC hputN
          have HN := Lib.hid hputN
          have HCC := Lib.hid cCC
          clear hputN hrC hrA cCC hM HN2
          go_enter Try.func14, Try.ntmps14
          go_wp2_with (first
            | (go_at_call 27; refine (HAN.out _).mono ?_; rintro e w3 ⟨rfl, rfl⟩)
            | (go_at_call 22; refine (HF.out _ ht.row).mono ?_; rintro e w2 ⟨rfl, hk2⟩; have q1 := (hk2.cell (p := ⟨b, off + N * 3 + 1, none⟩) hb (fun f => f)).trans HQ.out.2.1; have q2 := (hk2.cell (p := ⟨b, off + N * 3 + 2, none⟩) hb (fun f => f)).trans HQ.out.2.2)
            | (go_at_call 28; refine (HCO.out _).mono ?_; rintro e w3 ⟨rfl, rfl⟩)
            | (go_at_call 29; refine (HFO.out _).mono ?_; rintro e w3 ⟨rfl, rfl⟩)
            | (go_at_call 24; refine (HCL.out _ (ht.keptNo hk2)).mono ?_; rintro e w4 ⟨a4, c4, rfl, hown4, hk4⟩))
          refine wp_region_held_drew (S := (fun wx => Kept No w wx)) (by kernel_rfl) ?_ (fun hHeld => ?_)
          · exact hk2.drew
          refine wpAnyH_take (i := 0) (v := (.slice (some ⟨b, off, none⟩) L.length c)) rfl (by kernel_rfl) (by kernel_rfl) (by kernel_rfl) (fun _ _ _ h => h) (Or.inl ⟨by rfl, ?hhdb0⟩) (by assumption) ?rrdb0
          case hhdb0 => (intro wz9 hSw; (try dsimp only at hSw); go_simp; try with_reducible rfl)
          go_simp
          refine wpAnyH_take (i := 1) (v := (.int .i64 (N : Int))) rfl (by kernel_rfl) (by kernel_rfl) (by kernel_rfl) (fun _ _ _ h => h) (Or.inl ⟨by rfl, ?hhdb1⟩) (by assumption) ?rrdb1
          case hhdb1 => (intro wz9 hSw; (try dsimp only at hSw); go_simp; try with_reducible rfl)
          go_simp
          refine wpAnyH_take (i := 2) (v := (.slice (some ⟨b, off, none⟩) N c)) rfl (by kernel_rfl) (by kernel_rfl) (by kernel_rfl) (fun _ _ _ h => h) (Or.inl ⟨by rfl, ?hhdb2⟩) (by assumption) ?rrdb2
          case hhdb2 => (intro wz9 hSw; (try dsimp only at hSw); go_simp; try with_reducible rfl)
          go_simp
          refine wpAnyH_take (i := 3) (v := (.slice (some ⟨b, off, none⟩) L.length c)) rfl (by kernel_rfl) (by kernel_rfl) (by kernel_rfl) (fun _ _ _ h => h) (Or.inl ⟨by rfl, ?hhdb3⟩) (by assumption) ?rrdb3
          case hhdb3 => (intro wz9 hSw; (try dsimp only at hSw); go_simp; try with_reducible rfl)
          go_simp
          refine wpAnyH_take (i := 4) (v := (.int .i64 (N : Int))) rfl (by kernel_rfl) (by kernel_rfl) (by kernel_rfl) (fun _ _ _ h => h) (Or.inl ⟨by rfl, ?hhdb4⟩) (by assumption) ?rrdb4
          case hhdb4 => (intro wz9 hSw; (try dsimp only at hSw); go_simp; try with_reducible rfl)
          go_simp
          refine wpAnyH_take (i := 5) (v := (.int .i64 ((N : Int) + 1))) rfl (by kernel_rfl) (by kernel_rfl) (by kernel_rfl) (fun _ _ _ h => h) (Or.inl ⟨by rfl, ?hhdb5⟩) (by assumption) ?rrdb5
          case hhdb5 => (intro wz9 hSw; clear hSw; go_simp; rw [IntKind.wrap_i64]; omega)
          go_simp
          refine wpAnyH_take (i := 6) (v := (.slice (offA (some ⟨b, off, none⟩) c (N + 1)) NC (c - (N + 1)))) rfl (by kernel_rfl) (by kernel_rfl) (by kernel_rfl) (fun _ _ _ h => h) (Or.inl ⟨by rfl, ?hhdb6⟩) (by assumption) ?rrdb6
          case hhdb6 => (intro wz9 hSw; clear hSw; go_simp; rw [if_pos ⟨by omega, by omega⟩, show L.length - (N + 1) = NC by have := HLN.out; omega]; rfl)
          go_simp
          refine wpAnyH_ready (rs := [7]) (by kernel_rfl) (by simp) ?_
          refine AllReadyH.cons rfl (fun K9 hK9 => ?_) AllReadyH.nil
          first | go_simp | skip
          have hkw6 : Kept No w ((w2.alloc (.cells #[.slice (some ⟨b, off, none⟩) N c, .slice (offA (some ⟨b, off, none⟩) c (N + 1)) NC (c - (N + 1))] 26)).drew) := (hk2.alloc _).drew
          have hbg2 : Blk ((w2.alloc (.cells #[.slice (some ⟨b, off, none⟩) N c, .slice (offA (some ⟨b, off, none⟩) c (N + 1)) NC (c - (N + 1))] 26)).drew) w2.heap.size 26 #[.slice (some ⟨b, off, none⟩) N c, .slice (offA (some ⟨b, off, none⟩) c (N + 1)) NC (c - (N + 1))] := Blk.new w2 26 #[.slice (some ⟨b, off, none⟩) N c, .slice (offA (some ⟨b, off, none⟩) c (N + 1)) NC (c - (N + 1))]
          obtain ⟨g2, hg2⟩ : ∃ g, g = w2.heap.size := ⟨_, rfl⟩
          rw [← hg2] at hbg2
          rw [← hg2]
          clear hg2
          have hkw6p : Kept No w2 ((w2.alloc (.cells #[.slice (some ⟨b, off, none⟩) N c, .slice (offA (some ⟨b, off, none⟩) c (N + 1)) NC (c - (N + 1))] 26)).drew) := ((Kept.refl No w2).alloc _).drew
          generalize (w2.alloc (.cells #[.slice (some ⟨b, off, none⟩) N c, .slice (offA (some ⟨b, off, none⟩) c (N + 1)) NC (c - (N + 1))] 26)).drew = w6 at *
          refine hK9.out _ _ ?_ (fun hHeld2 => ?_)
          · exact hkw6
          clear hK9 K9 hHeld2
          refine wpAnyH_ready (rs := [8]) (by kernel_rfl) (by simp) ?_
          refine AllReadyH.cons rfl (fun K9 hK9 => ?_) AllReadyH.nil
          go_simp
          go_wp2_with (go_at_call 25; refine (HCC.out _ g2 hkw6 hbg2).mono ?_; rintro e w7 ⟨a7, c7, rfl, hown7, hk7⟩)
          have hkw7 := hkw6.trans hk7
          refine hK9.out _ _ ?_ (fun hHeld2 => ?_)
          · exact hkw7
          clear hK9 K9
          refine wpAnyH_take (i := 9) (v := .slice a7 M.length c7) rfl (by kernel_rfl) (by kernel_rfl) (by kernel_rfl) (fun _ _ _ h => h) (Or.inl ⟨by rfl, ?hh9db⟩) (by assumption) ?rr9db
          case hh9db => (intro wz9 hSw; (try dsimp only at hSw); go_simp; try with_reducible rfl)
          go_simp
          refine wpAnyH_take (i := 10) (v := .int .i64 0) rfl (by kernel_rfl) (by kernel_rfl) (by kernel_rfl) (fun _ _ _ h => h) (Or.inl ⟨by rfl, ?hh10db⟩) (by assumption) ?rr10db
          case hh10db => (intro wz9 hSw; (try dsimp only at hSw); go_simp; try with_reducible rfl)
          go_simp
          refine wpAnyH_done (by kernel_rfl) ?_ _
          go_wp2
          go_ret2
          exact tabIs_of HN.out (own_tb hown7) hHeld2
        · have hyI : (y == 0) = false := by simpa using hy
          have hrn : rn = 0 := by have h1 := HFS.out hy; have h2 := fit_st HFIT.out; omega
          subst hrn
          rw [if_neg hy, HPD.out.2] at HN2
          have HN := HN2
          clear HNY HYE HFC HFS hco HCO0 hy
          have HSET := Lib.hid (fun (wx : World) (bs g c9 nn : Nat) (h : wx.ownsRow bs 55 3 (.slice (some ⟨g, 0, none⟩) nn c9) nn (RC L)) => own_set (A := A) (C := C) (r := ⟨id, st, 0⟩) (by rw [HALL.out] at h; exact h) y)
          rw [← HNN.out.1] at HSET
          obtain ⟨M, hM⟩ : ∃ M, M = A ++ (⟨id, y, 0⟩ : Rw) :: C := ⟨_, rfl⟩
          rw [← hM] at HSET HN
          have HML : Hid (L.length = M.length) := Lib.hid (by rw [hM]; have := HALL.out; rw [this]; simp)
          clear hM HN2
          go_enter Try.func14, Try.ntmps14
          go_wp2_with (first
            | (go_at_call 27; refine (HAN.out _).mono ?_; rintro e w3 ⟨rfl, rfl⟩)
            | (go_at_call 22; refine (HF.out _ ht.row).mono ?_; rintro e w2 ⟨rfl, hk2⟩; have q1 := (hk2.cell (p := ⟨b, off + N * 3 + 1, none⟩) hb (fun f => f)).trans HQ.out.2.1; have q2 := (hk2.cell (p := ⟨b, off + N * 3 + 2, none⟩) hb (fun f => f)).trans HQ.out.2.2)
            | (go_at_call 28; refine (HCO.out _).mono ?_; rintro e w3 ⟨rfl, rfl⟩)
            | (go_at_call 29; refine (HFO.out _).mono ?_; rintro e w3 ⟨rfl, rfl⟩)
            | (go_at_call 24; refine (HCL.out _ (ht.keptNo hk2)).mono ?_; rintro e w4 ⟨a4, c4, rfl, hown4, hk4⟩; obtain ⟨g4, hga, hbg, ⟨u4, hcell⟩, hfrz, hg4⟩ := own_at hown4 (k := N) (by omega); subst hga; have HOW := Lib.hid hown4; clear hown4))
          go_ret2
          have hfin := HSET.out _ _ _ _ _ HOW.out
          have e9 : M.length = L.length := HML.out.symm
          rw [← e9] at hfin
          have hE := tabIs_of (w' := w4.setCell ⟨g4, N * 3 + 1, none⟩ (.int .i64 y)) HN.out (own_tb hfin) ((hk2.trans hk4).setCell (.inl (Nat.le_trans hk2.size hbg)) _)
          rw [e9] at hE
          exact hE
    · have hsI : (st != z) = true := by simpa using hs
      have HN := Lib.hid (HNY.out (by simp [hs]))
      have HCO := HCO0
      clear HNY HYE HFC HFS hs HCO0
      go_enter Try.func14, Try.ntmps14
      go_wp2_with (first
        | (go_at_call 27; refine (HAN.out _).mono ?_; rintro e w3 ⟨rfl, rfl⟩)
        | (go_at_call 22; refine (HF.out _ ht.row).mono ?_; rintro e w2 ⟨rfl, hk2⟩; have q1 := (hk2.cell (p := ⟨b, off + N * 3 + 1, none⟩) hb (fun f => f)).trans HQ.out.2.1; have q2 := (hk2.cell (p := ⟨b, off + N * 3 + 2, none⟩) hb (fun f => f)).trans HQ.out.2.2)
        | (go_at_call 28; refine (HCO.out _).mono ?_; rintro e w3 ⟨rfl, rfl⟩)
        | (go_at_call 29; refine (HFO.out _).mono ?_; rintro e w3 ⟨rfl, rfl⟩)
        | (go_at_call 24; refine (HCL.out _ (ht.keptNo hk2)).mono ?_; rintro e w4 ⟨a4, c4, rfl, hown4, hk4⟩))
      go_ret2
      exact tabIs_of HN.out (own_tb hown4) (hk2.trans hk4)

end Go.Proofs.Ytlgbljohhnhhkaa
