/-
  ids.Open: made by mkidk.py.
-/
import Derived.Test.YtlgbljohhnhhkaaIdJ
import Derived.Deep.RegionHeld3
namespace Go.Proofs.Ytlgbljohhnhhkaa
open Go.RowKit
set_option linter.unusedVariables false
set_option linter.unusedSimpArgs false
set_option maxRecDepth 100000

set_option maxHeartbeats 4000000 in
theorem iopen_any (a : Option Addr) (c : Nat) (L : List Rw) (i : Nat) (s n : Int) (w : World) (ht : Tb w a c L) (hR : rightGo 0 L = true) (hl : L.length ≤ 1000) :
    Calls Try.prog 12 #[.slice a L.length c, .int .u16 i, .int .i64 s, .int .i64 n] w (TabIs (openR L i s n) w) := by
  have hc := cut_of i (asc_of hR)
  have HF := Lib.hid (fun wx h => find_any a c L _ _ _ i hc wx h (by omega))
  have HCL := Lib.hid (fun wx (h : Tb wx a c L) => iclone_any a c L wx h.row h.nil (by omega))
  have cO := fun wx => opens_any s wx
  have cI := fun wx => fits_any s n wx
  have hlen := congrArg List.length hc.all
  simp only [List.length_append] at hlen
  by_cases h0 : i = 0
  · have HN : Hid (openR L i s n = (L, 1)) := Lib.hid (by unfold openR; rw [if_pos (.inl h0)])
    generalize openR L i s n = R at *
    have h0I : ((i : Int) == 0) = true := by simp; omega
    have HOP := Lib.hid cO
    have HFI := Lib.hid cI
    have hNl : (loL L i).length ≤ 1000 := by omega
    generalize (loL L i).length = N at *
    generalize (ofL L i).isSome = B at *
    clear cO cI hc hlen h0 hR
    go_enter Try.func12, Try.ntmps12
    go_wp2_with (first
      | (go_at_call 22; refine (HF.out _ ht.row).mono ?_; rintro e w2 ⟨rfl, hk2⟩)
      | (go_at_call 23; refine (HOP.out _).mono ?_; rintro e w3 ⟨rfl, rfl⟩)
      | (go_at_call 20; refine (HFI.out _).mono ?_; rintro e w3 ⟨rfl, rfl⟩)
      | (go_at_call 24; refine (HCL.out _ (ht.keptNo hk2)).mono ?_; rintro e w4 ⟨a4, c4, rfl, hown4, hk4⟩))
    go_ret2
    exact tabIs_of HN.out (own_tb hown4) (hk2.trans hk4)
  have h0I : ((i : Int) == 0) = false := by simp; omega
  cases ho : opnB s with
  | false =>
    have HN : Hid (openR L i s n = (L, 1)) := Lib.hid (by unfold openR; rw [if_pos (.inr (.inl ho))])
    rw [ho] at cO
    generalize openR L i s n = R at *
    have HOP := Lib.hid cO
    have HFI := Lib.hid cI
    have hNl : (loL L i).length ≤ 1000 := by omega
    generalize (loL L i).length = N at *
    generalize (ofL L i).isSome = B at *
    clear cO cI hc hlen h0 hR ho
    go_enter Try.func12, Try.ntmps12
    go_wp2_with (first
      | (go_at_call 22; refine (HF.out _ ht.row).mono ?_; rintro e w2 ⟨rfl, hk2⟩)
      | (go_at_call 23; refine (HOP.out _).mono ?_; rintro e w3 ⟨rfl, rfl⟩)
      | (go_at_call 20; refine (HFI.out _).mono ?_; rintro e w3 ⟨rfl, rfl⟩)
      | (go_at_call 24; refine (HCL.out _ (ht.keptNo hk2)).mono ?_; rintro e w4 ⟨a4, c4, rfl, hown4, hk4⟩))
    go_ret2
    exact tabIs_of HN.out (own_tb hown4) (hk2.trans hk4)
  | true =>
    rw [ho] at cO
    have HOP := Lib.hid cO
    clear cO
    cases hf : fitB s n with
    | false =>
      have HN : Hid (openR L i s n = (L, 1)) := Lib.hid (by unfold openR; rw [if_pos (.inr (.inr hf))])
      rw [hf] at cI
      generalize openR L i s n = R at *
      have HFI := Lib.hid cI
      have hNl : (loL L i).length ≤ 1000 := by omega
      generalize (loL L i).length = N at *
      generalize (ofL L i).isSome = B at *
      clear cI hc hlen h0 hR ho hf
      go_enter Try.func12, Try.ntmps12
      go_wp2_with (first
        | (go_at_call 22; refine (HF.out _ ht.row).mono ?_; rintro e w2 ⟨rfl, hk2⟩)
        | (go_at_call 23; refine (HOP.out _).mono ?_; rintro e w3 ⟨rfl, rfl⟩)
        | (go_at_call 20; refine (HFI.out _).mono ?_; rintro e w3 ⟨rfl, rfl⟩)
        | (go_at_call 24; refine (HCL.out _ (ht.keptNo hk2)).mono ?_; rintro e w4 ⟨a4, c4, rfl, hown4, hk4⟩))
      go_ret2
      exact tabIs_of HN.out (own_tb hown4) (hk2.trans hk4)
    | true =>
      rw [hf] at cI
      have HFI := Lib.hid cI
      clear cI
      have e0 : ¬ (i = 0 ∨ opnB s = false ∨ fitB s n = false) := by rw [ho, hf]; simp; exact h0
      cases hu : ofL L i with
      | some r =>
        have HN : Hid (openR L i s n = (L, 7)) := Lib.hid (by unfold openR; rw [if_neg e0, hu]; rfl)
        rw [hu] at HF
        generalize openR L i s n = R at *
        have hNl : (loL L i).length ≤ 1000 := by omega
        generalize (loL L i).length = N at *
        clear hc hlen h0 hR ho hf hu e0
        have HF := Lib.hid (show ∀ wx, Row wx a (RC L) → Calls Try.prog 22 #[.slice a L.length c, .int .u16 i] wx (FindIs N true wx) from HF.out)
        go_enter Try.func12, Try.ntmps12
        go_wp2_with (first
          | (go_at_call 22; refine (HF.out _ ht.row).mono ?_; rintro e w2 ⟨rfl, hk2⟩)
          | (go_at_call 23; refine (HOP.out _).mono ?_; rintro e w3 ⟨rfl, rfl⟩)
          | (go_at_call 20; refine (HFI.out _).mono ?_; rintro e w3 ⟨rfl, rfl⟩)
          | (go_at_call 24; refine (HCL.out _ (ht.keptNo hk2)).mono ?_; rintro e w4 ⟨a4, c4, rfl, hown4, hk4⟩))
        go_ret2
        exact tabIs_of HN.out (own_tb hown4) (hk2.trans hk4)
      | none =>
        have HN : Hid (openR L i s n = (loL L i ++ (⟨i, s, n⟩ :: hiL L i), 0)) := Lib.hid (by unfold openR; rw [if_neg e0, hu]; rfl)
        rw [hu] at HF hc
        generalize openR L i s n = R at *
        have HF := Lib.hid (show ∀ wx, Row wx a (RC L) → Calls Try.prog 22 #[.slice a L.length c, .int .u16 i] wx (FindIs (loL L i).length false wx) from HF.out)
        have HALL : Hid (L = loL L i ++ hiL L i) := Lib.hid hc.all
        have hlen2 := congrArg List.length HALL.out
        rw [List.length_append] at hlen2
        generalize loL L i = A at *
        generalize hiL L i = B at *
        have hcap := ht.cap
        have hrA : ∀ wx, Kept No w wx → Row wx a (RC A) := fun wx hk => (by have := ht.row.keptNo hk; rw [HALL.out] at this; exact row_left this)
        have hrB : ∀ wx, Kept No w wx → Row wx (offA a c A.length) (RC B) := fun wx hk => (by have h1 := ht.row.keptNo hk; rw [HALL.out] at h1; exact row_right h1 (by rw [← HALL.out]; exact hcap))
        have hnA : a = none → A.length = 0 ∧ c = 0 := fun h => by have := ht.nil h; omega
        have hnB : offA a c A.length = none → B.length = 0 ∧ c - A.length = 0 := fun h => by have := ht.nil (offA_none h); omega
        have HRA := Lib.hid (And.intro hrA (And.intro hrB (And.intro hnA hnB)))
        have hcN : A.length ≤ c := by omega
        have hNl : A.length ≤ 1000 := by omega
        have hBl : B.length ≤ 1000 := by omega
        clear hrA hrB hnA hnB hc hlen h0 hR ho hf hu e0
        obtain ⟨N, hN⟩ : ∃ N, N = A.length := ⟨_, rfl⟩
        obtain ⟨NB, hNB⟩ : ∃ N, N = B.length := ⟨_, rfl⟩
        rw [← hN] at HF hcN hNl hlen2
        rw [← hNB] at hBl hlen2
        have HNN := Lib.hid (And.intro hN hNB)
        have HLN := Lib.hid hlen2
        have hNL : N ≤ L.length := by omega
        obtain ⟨M, hM⟩ : ∃ M, M = A ++ (⟨i, s, n⟩ : Rw) :: B := ⟨_, rfl⟩
        rw [← hM] at HN
        have cCC := (fun wx g1 g2 hk h2 h1 => concat3 a c A B ⟨i, s, n⟩ g1 g2 N NB wx hN hNB h2 h1 (HRA.out.1 wx hk) (HRA.out.2.1 wx hk) HRA.out.2.2.1 HRA.out.2.2.2 (by omega) (by omega))
        rw [← hM] at cCC
        have HCC := Lib.hid cCC
        clear hN hNB hlen2 cCC hM
        go_enter Try.func12, Try.ntmps12
        go_wp2_with (first
          | (go_at_call 22; refine (HF.out _ ht.row).mono ?_; rintro e w2 ⟨rfl, hk2⟩)
          | (go_at_call 23; refine (HOP.out _).mono ?_; rintro e w3 ⟨rfl, rfl⟩)
          | (go_at_call 20; refine (HFI.out _).mono ?_; rintro e w3 ⟨rfl, rfl⟩))
        refine wp_region_held_drew (S := (fun wx => Kept No w wx)) (by kernel_rfl) ?_ (fun hHeld => ?_)
        · exact hk2.drew
        refine wpAnyH_take (i := 0) (v := (.slice a L.length c)) rfl (by kernel_rfl) (by kernel_rfl) (by kernel_rfl) (fun _ _ _ h => h) (Or.inl ⟨by rfl, ?hhop0⟩) (by assumption) ?rrop0
        case hhop0 => (intro wz9 hSw; (try dsimp only at hSw); go_simp; try with_reducible rfl)
        go_simp
        refine wpAnyH_take (i := 1) (v := (.int .i64 (N : Int))) rfl (by kernel_rfl) (by kernel_rfl) (by kernel_rfl) (fun _ _ _ h => h) (Or.inl ⟨by rfl, ?hhop1⟩) (by assumption) ?rrop1
        case hhop1 => (intro wz9 hSw; (try dsimp only at hSw); go_simp; try with_reducible rfl)
        go_simp
        refine wpAnyH_take (i := 2) (v := (.slice a N c)) rfl (by kernel_rfl) (by kernel_rfl) (by kernel_rfl) (fun _ _ _ h => h) (Or.inl ⟨by rfl, ?hhop2⟩) (by assumption) ?rrop2
        case hhop2 => (intro wz9 hSw; (try dsimp only at hSw); go_simp; try with_reducible rfl)
        go_simp
        refine wpAnyH_take (i := 3) (v := (.int .u16 (i : Int))) rfl (by kernel_rfl) (by kernel_rfl) (by kernel_rfl) (fun _ _ _ h => h) (Or.inl ⟨by rfl, ?hhop3⟩) (by assumption) ?rrop3
        case hhop3 => (intro wz9 hSw; (try dsimp only at hSw); go_simp; try with_reducible rfl)
        go_simp
        refine wpAnyH_take (i := 4) (v := (.int .i64 s)) rfl (by kernel_rfl) (by kernel_rfl) (by kernel_rfl) (fun _ _ _ h => h) (Or.inl ⟨by rfl, ?hhop4⟩) (by assumption) ?rrop4
        case hhop4 => (intro wz9 hSw; (try dsimp only at hSw); go_simp; try with_reducible rfl)
        go_simp
        refine wpAnyH_take (i := 5) (v := (.int .i64 n)) rfl (by kernel_rfl) (by kernel_rfl) (by kernel_rfl) (fun _ _ _ h => h) (Or.inl ⟨by rfl, ?hhop5⟩) (by assumption) ?rrop5
        case hhop5 => (intro wz9 hSw; (try dsimp only at hSw); go_simp; try with_reducible rfl)
        go_simp
        refine wpAnyH_take (i := 6) (v := (.agg #[.int .u16 (i : Int), .int .i64 s, .int .i64 n])) rfl (by kernel_rfl) (by kernel_rfl) (by kernel_rfl) (fun _ _ _ h => h) (Or.inl ⟨by rfl, ?hhop6⟩) (by assumption) ?rrop6
        case hhop6 => (intro wz9 hSw; (try dsimp only at hSw); go_simp; try with_reducible rfl)
        go_simp
        refine wpAnyH_take (i := 8) (v := (.slice a L.length c)) rfl (by kernel_rfl) (by kernel_rfl) (by kernel_rfl) (fun _ _ _ h => h) (Or.inl ⟨by rfl, ?hhop8⟩) (by assumption) ?rrop8
        case hhop8 => (intro wz9 hSw; (try dsimp only at hSw); go_simp; try with_reducible rfl)
        go_simp
        refine wpAnyH_take (i := 9) (v := (.int .i64 (N : Int))) rfl (by kernel_rfl) (by kernel_rfl) (by kernel_rfl) (fun _ _ _ h => h) (Or.inl ⟨by rfl, ?hhop9⟩) (by assumption) ?rrop9
        case hhop9 => (intro wz9 hSw; (try dsimp only at hSw); go_simp; try with_reducible rfl)
        go_simp
        refine wpAnyH_take (i := 10) (v := (.slice (offA a c N) NB (c - N))) rfl (by kernel_rfl) (by kernel_rfl) (by kernel_rfl) (fun _ _ _ h => h) (Or.inl ⟨by rfl, ?hhop10⟩) (by assumption) ?rrop10
        case hhop10 => (intro wz9 hSw; clear hSw; go_simp; exact ⟨rfl, by have := HLN.out; omega⟩)
        go_simp
        refine wpAnyH_ready (rs := [7]) (by kernel_rfl) (by simp) ?_
        refine AllReadyH.cons rfl (fun K9 hK9 => ?_) AllReadyH.nil
        first | go_simp | skip
        have hkw5 : Kept No w ((w2.alloc (.cells #[.int .u16 (i : Int), .int .i64 s, .int .i64 n] 55)).drew) := (hk2.alloc _).drew
        have hbg1 : Blk ((w2.alloc (.cells #[.int .u16 (i : Int), .int .i64 s, .int .i64 n] 55)).drew) w2.heap.size 55 #[.int .u16 (i : Int), .int .i64 s, .int .i64 n] := Blk.new w2 55 #[.int .u16 (i : Int), .int .i64 s, .int .i64 n]
        obtain ⟨g1, hg1⟩ : ∃ g, g = w2.heap.size := ⟨_, rfl⟩
        rw [← hg1] at hbg1
        rw [← hg1]
        clear hg1
        have hkw5p : Kept No w2 ((w2.alloc (.cells #[.int .u16 (i : Int), .int .i64 s, .int .i64 n] 55)).drew) := ((Kept.refl No w2).alloc _).drew
        generalize (w2.alloc (.cells #[.int .u16 (i : Int), .int .i64 s, .int .i64 n] 55)).drew = w5 at *
        refine hK9.out _ _ ?_ (fun hHeld2 => ?_)
        · exact hkw5
        clear hK9 K9 hHeld2
        refine wpAnyH_ready (rs := [11]) (by kernel_rfl) (by simp) ?_
        refine AllReadyH.cons rfl (fun K9 hK9 => ?_) AllReadyH.nil
        first | go_simp | skip
        have hkw6 : Kept No w ((w5.alloc (.cells #[.slice a N c, .slice (some ⟨g1, 0, none⟩) 1 1, .slice (offA a c N) NB (c - N)] 26))) := (hkw5.alloc _)
        have hbg2 : Blk ((w5.alloc (.cells #[.slice a N c, .slice (some ⟨g1, 0, none⟩) 1 1, .slice (offA a c N) NB (c - N)] 26))) w5.heap.size 26 #[.slice a N c, .slice (some ⟨g1, 0, none⟩) 1 1, .slice (offA a c N) NB (c - N)] := Blk.new w5 26 #[.slice a N c, .slice (some ⟨g1, 0, none⟩) 1 1, .slice (offA a c N) NB (c - N)]
        obtain ⟨g2, hg2⟩ : ∃ g, g = w5.heap.size := ⟨_, rfl⟩
        rw [← hg2] at hbg2
        rw [← hg2]
        clear hg2
        have hkw6p : Kept No w5 ((w5.alloc (.cells #[.slice a N c, .slice (some ⟨g1, 0, none⟩) 1 1, .slice (offA a c N) NB (c - N)] 26))) := ((Kept.refl No w5).alloc _)
        generalize (w5.alloc (.cells #[.slice a N c, .slice (some ⟨g1, 0, none⟩) 1 1, .slice (offA a c N) NB (c - N)] 26)) = w6 at *
        refine hK9.out _ _ ?_ (fun hHeld2 => ?_)
        · exact hkw6
        clear hK9 K9 hHeld2
        refine wpAnyH_ready (rs := [12]) (by kernel_rfl) (by simp) ?_
        refine AllReadyH.cons rfl (fun K9 hK9 => ?_) AllReadyH.nil
        go_simp
        have hk56 : Kept No w5 w6 := hkw6p
        go_wp2_with (go_at_call 25; refine (HCC.out _ g1 g2 hkw6 hbg2 ((row_of_blk hbg1).keptNo hk56)).mono ?_; rintro e w7 ⟨a7, c7, rfl, hown7, hk7⟩)
        have hkw7 := hkw6.trans hk7
        refine hK9.out _ _ ?_ (fun hHeld2 => ?_)
        · exact hkw7
        clear hK9 K9
        refine wpAnyH_take (i := 13) (v := .slice a7 M.length c7) rfl (by kernel_rfl) (by kernel_rfl) (by kernel_rfl) (fun _ _ _ h => h) (Or.inl ⟨by rfl, ?hh13⟩) (by assumption) ?rr13
        case hh13 => (intro wz9 hSw; (try dsimp only at hSw); go_simp; try with_reducible rfl)
        go_simp
        refine wpAnyH_take (i := 14) (v := .int .i64 0) rfl (by kernel_rfl) (by kernel_rfl) (by kernel_rfl) (fun _ _ _ h => h) (Or.inl ⟨by rfl, ?hh14⟩) (by assumption) ?rr14
        case hh14 => (intro wz9 hSw; (try dsimp only at hSw); go_simp; try with_reducible rfl)
        go_simp
        refine wpAnyH_done (by kernel_rfl) ?_ _
        go_wp2
        go_ret2
        exact tabIs_of HN.out (own_tb hown7) hHeld2

end Go.Proofs.Ytlgbljohhnhhkaa
