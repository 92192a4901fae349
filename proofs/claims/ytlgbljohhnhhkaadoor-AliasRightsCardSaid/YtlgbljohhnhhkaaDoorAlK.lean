/-
  alias.Get, with, Use: made by mkalk.py.
-/
import Derived.Test.YtlgbljohhnhhkaaDoorAlG
namespace Go.Proofs.YtlgbljohhnhhkaaDoor
open Go.RowKit
set_option linter.unusedVariables false
set_option linter.unusedSimpArgs false
set_option maxRecDepth 100000

theorem name_size {s : ByteArray} (h : nameB s = true) : s.size ≤ 65535 := by
  unfold nameB at h
  rw [Bool.and_eq_true] at h
  exact okText_size h.1
theorem getL {L A C : List Rw} {r : Rw} (h : L = A ++ (r :: C)) (hl : A.length < L.length) : L[A.length] = r := by
  subst h
  rw [List.getElem_append_right (Nat.le_refl _)]
  simp
set_option maxHeartbeats 4000000 in
theorem iget_any (a : Option Addr) (c : Nat) (L : List Rw) (i : Nat) (w : World) (hr : Row w a (RC L)) (hR : rightGo 0 L = true) (hl : L.length ≤ 1000) :
    Calls Tryd.prog 13 #[.slice a L.length c, .int .u16 i] w (GetIs (ofL L i) w) := by
  have hc := cut_of i (asc_of hR)
  have cF := (fun wx h => find_any a c L _ _ _ i hc wx h (by omega))
  cases hu : ofL L i with
  | none =>
    have HF := Lib.hid (show ∀ wx, Row wx a (RC L) → Calls Tryd.prog 20 #[.slice a L.length c, .int .u16 i] wx (FindIs (loL L i).length false wx) from by rw [hu] at cF; exact cF)
    generalize (loL L i).length = N at *
    clear cF hc hR hu
    go_enter Tryd.func13, Tryd.ntmps13
    go_wp2_with (go_at_call 20; refine (HF.out _ hr).mono ?_; rintro e w2 ⟨rfl, hk2⟩)
    go_ret2
    exact ⟨rfl, hk2⟩
  | some r =>
    rw [hu] at hc cF
    have HF := Lib.hid (show ∀ wx, Row wx a (RC L) → Calls Tryd.prog 20 #[.slice a L.length c, .int .u16 i] wx (FindIs (loL L i).length true wx) from cF)
    have hall : L = loL L i ++ (r :: hiL L i) := hc.all
    have hnm := fits_all hR r (by rw [hall]; simp)
    have hsz := name_size hnm
    generalize loL L i = A at *
    have hNL : A.length < L.length := by rw [hall]; simp
    obtain ⟨b, off, rfl, hb, q0, q1⟩ := hr.rw3 hNL
    rw [getL hall hNL] at q1
    obtain ⟨id, tx⟩ := r
    dsimp only at q1 hsz
    have HCS := Lib.hid (fun wx => clone_any tx wx (by omega))
    have HQ := Lib.hid q1
    generalize A.length = N at *
    clear hall hnm hc hR hu cF q0 q1
    have hNLI : (N : Int) < (L.length : Int) := by omega
    go_enter Tryd.func13, Tryd.ntmps13
    go_wp2_with (first
      | (go_at_call 20; refine (HF.out _ hr).mono ?_; rintro e w2 ⟨rfl, hk2⟩; have q1 := (hk2.cell (p := ⟨b, off + N * 2 + 1, none⟩) hb (fun f => f)).trans HQ.out)
      | (go_at_call 19; refine (HCS.out _).mono ?_; rintro e w3 ⟨rfl, hk3⟩))
    go_ret2
    exact ⟨rfl, hk2.trans hk3⟩

theorem concat3g (a a2 : Option Addr) (c c2 : Nat) (A B : List Rw) (x : Rw) (g1 g2 N NB : Nat) (w : World) (hN : N = A.length) (hNB : NB = B.length)
    (h2 : Blk w g2 29 #[.slice a N c, .slice (some ⟨g1, 0, none⟩) 1 1, .slice a2 NB c2]) (h1 : Row w (some ⟨g1, 0, none⟩) (RC [x]))
    (hA : Row w a (RC A)) (hB : Row w a2 (RC B)) (hnA : a = none → A.length = 0 ∧ c = 0) (hnB : a2 = none → B.length = 0 ∧ c2 = 0) (hlA : A.length ≤ 1000) (hlB : B.length ≤ 1000) :
    Calls Tryd.prog 25 #[.slice (some ⟨g2, 0, none⟩) 3 3] w (OwnR 46 w (A ++ x :: B)) := by
  subst hN hNB
  have h := iconcat_any (some ⟨g2, 0, none⟩) 3 [⟨a, c, A⟩, ⟨some ⟨g1, 0, none⟩, 1, [x]⟩, ⟨a2, c2, B⟩] w (row_of_blk h2) (fun p hp => by
    simp only [List.mem_cons, List.mem_nil_iff, or_false] at hp
    rcases hp with rfl | rfl | rfl
    · exact ⟨hA, hnA⟩
    · exact ⟨h1, fun h => by cases h⟩
    · exact ⟨hB, hnB⟩) (by simp [sumP]; omega) (by simp)
  have e : catP [⟨a, c, A⟩, ⟨some ⟨g1, 0, none⟩, 1, [x]⟩, ⟨a2, c2, B⟩] = A ++ x :: B := by simp [catP]
  rw [e] at h
  exact h
def PutIs (M : List Rw) (w : World) (e : Ending) (w' : World) : Prop := ∃ a c, e = .returned (.slice a M.length c) ∧ Tb w' a c M ∧ Kept No w w'
set_option maxHeartbeats 4000000 in
theorem iwith_any (a : Option Addr) (c : Nat) (L : List Rw) (i : Nat) (s : ByteArray) (w : World) (ht : Tb w a c L) (hR : rightGo 0 L = true) (hl : L.length ≤ 1000) (hs : s.size ≤ 65535) :
    Calls Tryd.prog 18 #[.slice a L.length c, .int .u16 i, .string s] w (PutIs (putR L i (some ⟨i, s⟩)) w) := by
  have hc := cut_of i (asc_of hR)
  have cF := (fun wx h => find_any a c L _ _ _ i hc wx h (by omega))
  have HCS := Lib.hid (fun wx => clone_any s wx (by omega))
  have hput : putR L i (some ⟨i, s⟩) = loL L i ++ (⟨i, s⟩ :: hiL L i) := rfl
  rw [hput]
  clear hput
  cases hu : ofL L i with
  | none =>
    rw [hu] at hc cF
    have HF := Lib.hid (show ∀ wx, Row wx a (RC L) → Calls Tryd.prog 20 #[.slice a L.length c, .int .u16 i] wx (FindIs (loL L i).length false wx) from cF)
    have HALL : Hid (L = loL L i ++ hiL L i) := Lib.hid hc.all
    have hlen2 := congrArg List.length HALL.out
    rw [List.length_append] at hlen2
    generalize loL L i = A at *
    generalize hiL L i = B at *
    have hcap := ht.cap
    have hrA : ∀ wx, Kept No w wx → Row wx a (RC A) := fun wx hk => (by have := ht.row.keptNo hk; rw [HALL.out] at this; exact row_left this)
    have hrB : ∀ wx, Kept No w wx → Row wx (offA a c (A.length)) (RC B) := fun wx hk => (by
      have h1 := ht.row.keptNo hk
      rw [HALL.out] at h1
      exact row_right h1 (by rw [← HALL.out]; exact hcap))
    have hnA : a = none → A.length = 0 ∧ c = 0 := fun h => by have := ht.nil h; omega
    have hnB : offA a c (A.length) = none → B.length = 0 ∧ c - (A.length) = 0 := fun h => by have := ht.nil (offA_none h); omega
    have HRA := Lib.hid (And.intro hrA (And.intro hrB (And.intro hnA hnB)))
    have hcN : A.length ≤ c := by omega
    have hNl : A.length ≤ 1000 := by omega
    have hBl : B.length ≤ 1000 := by omega
    clear hrA hrB hnA hnB hc hu cF hR
    obtain ⟨N, hN⟩ : ∃ N, N = A.length := ⟨_, rfl⟩
    obtain ⟨NB, hNB⟩ : ∃ N, N = B.length := ⟨_, rfl⟩
    obtain ⟨M, hM⟩ : ∃ M, M = A ++ (⟨i, s⟩ : Rw) :: B := ⟨_, rfl⟩
    have cCC := (fun wx g1 g2 hk h2 h1 => concat3g a (offA a c (A.length)) c (c - (A.length)) A B ⟨i, s⟩ g1 g2 N NB wx hN hNB h2 h1 (HRA.out.1 wx hk) (HRA.out.2.1 wx hk) HRA.out.2.2.1 HRA.out.2.2.2 (by omega) (by omega))
    rw [← hM] at cCC ⊢
    rw [← hN] at HF hcN hNl hlen2 cCC
    rw [← hNB] at hBl hlen2
    have HCC := Lib.hid cCC
    have HLN := Lib.hid hlen2
    have hNL : N ≤ L.length := by omega
    have hNI : (N : Int) + 1 ≤ 2000 := by omega
    have hNc9 : N ≤ c := by omega
    have hNl9 : N ≤ L.length := by omega
    clear hN hNB hlen2 cCC hM
    go_enter Tryd.func18, Tryd.ntmps18
    go_wp2_with (go_at_call 20; refine (HF.out _ ht.row).mono ?_; rintro e w2 ⟨rfl, hk2⟩)
    refine wp_region_held_drew (S := (fun wx => Kept No w wx)) (by kernel_rfl) ?_ (fun hHeld => ?_)
    · exact hk2.drew
    refine wpAnyH_take (i := 0) (v := (.slice a L.length c)) rfl (by kernel_rfl) (by kernel_rfl) (by kernel_rfl) (fun _ _ _ h => h) (Or.inl ⟨by rfl, ?hhwn0⟩) (by assumption) ?rrwn0
    case hhwn0 => (intro wz9 hSw; (try dsimp only at hSw); go_simp; try with_reducible rfl)
    go_simp
    refine wpAnyH_take (i := 1) (v := (.int .i64 (N : Int))) rfl (by kernel_rfl) (by kernel_rfl) (by kernel_rfl) (fun _ _ _ h => h) (Or.inl ⟨by rfl, ?hhwn1⟩) (by assumption) ?rrwn1
    case hhwn1 => (intro wz9 hSw; (try dsimp only at hSw); go_simp; try with_reducible rfl)
    go_simp
    refine wpAnyH_take (i := 2) (v := (.slice a N c)) rfl (by kernel_rfl) (by kernel_rfl) (by kernel_rfl) (fun _ _ _ h => h) (Or.inl ⟨by rfl, ?hhwn2⟩) (by assumption) ?rrwn2
    case hhwn2 => (intro wz9 hSw; (try dsimp only at hSw); go_simp; try with_reducible rfl)
    go_simp
    refine wpAnyH_take (i := 3) (v := (.int .u16 (i : Int))) rfl (by kernel_rfl) (by kernel_rfl) (by kernel_rfl) (fun _ _ _ h => h) (Or.inl ⟨by rfl, ?hhwn3⟩) (by assumption) ?rrwn3
    case hhwn3 => (intro wz9 hSw; (try dsimp only at hSw); go_simp; try with_reducible rfl)
    go_simp
    refine wpAnyH_take (i := 4) (v := (.string s)) rfl (by kernel_rfl) (by kernel_rfl) (by kernel_rfl) (fun _ _ _ h => h) (Or.inl ⟨by rfl, ?hhwn4⟩) (by assumption) ?rrwn4
    case hhwn4 => (intro wz9 hSw; (try dsimp only at hSw); go_simp; try with_reducible rfl)
    go_simp
    refine wpAnyH_take (i := 8) (v := (.slice a L.length c)) rfl (by kernel_rfl) (by kernel_rfl) (by kernel_rfl) (fun _ _ _ h => h) (Or.inl ⟨by rfl, ?hhwn8⟩) (by assumption) ?rrwn8
    case hhwn8 => (intro wz9 hSw; (try dsimp only at hSw); go_simp; try with_reducible rfl)
    go_simp
    refine wpAnyH_take (i := 9) (v := (.int .i64 (N : Int))) rfl (by kernel_rfl) (by kernel_rfl) (by kernel_rfl) (fun _ _ _ h => h) (Or.inl ⟨by rfl, ?hhwn9⟩) (by assumption) ?rrwn9
    case hhwn9 => (intro wz9 hSw; (try dsimp only at hSw); go_simp; try with_reducible rfl)
    go_simp
    refine wpAnyH_take (i := 10) (v := (.slice (offA a c (N)) NB (c - (N)))) rfl (by kernel_rfl) (by kernel_rfl) (by kernel_rfl) (fun _ _ _ h => h) (Or.inl ⟨by rfl, ?hhwn10⟩) (by assumption) ?rrwn10
    case hhwn10 => (intro wz9 hSw; clear hSw; go_simp; exact ⟨rfl, by have := HLN.out; omega⟩)
    go_simp
    refine wpAnyH_ready (rs := [5]) (by kernel_rfl) (by simp) ?_
    refine AllReadyH.cons rfl (fun K9 hK9 => ?_) AllReadyH.nil
    go_simp
    go_wp2_with (go_at_call 19; refine (HCS.out _).mono ?_; rintro e w3 ⟨rfl, hk3⟩)
    have hk3w := hHeld.trans hk3
    refine hK9.out _ _ ?_ (fun hHeld2 => ?_)
    · exact hk3w
    clear hK9 K9 hHeld2
    go_simp
    refine wpAnyH_take (i := 6) (v := .agg #[.int .u16 (i : Int), .string s]) rfl (by kernel_rfl) (by kernel_rfl) (by kernel_rfl) (fun _ _ _ h => h) (Or.inl ⟨by rfl, ?hh6wn⟩) (by assumption) ?rr6wn
    case hh6wn => (intro wz9 hSw; (try dsimp only at hSw); go_simp; try with_reducible rfl)
    go_simp
    refine wpAnyH_ready (rs := [7]) (by kernel_rfl) (by simp) ?_
    refine AllReadyH.cons rfl (fun K9 hK9 => ?_) AllReadyH.nil
    first | go_simp | skip
    have hkw5 : Kept No w ((w3.alloc (.cells #[.int .u16 (i : Int), .string s] 46))) := (hk3w.alloc _)
    have hbg1 : Blk ((w3.alloc (.cells #[.int .u16 (i : Int), .string s] 46))) w3.heap.size 46 #[.int .u16 (i : Int), .string s] := Blk.new w3 46 #[.int .u16 (i : Int), .string s]
    obtain ⟨g1, hg1⟩ : ∃ g, g = w3.heap.size := ⟨_, rfl⟩
    rw [← hg1] at hbg1
    rw [← hg1]
    clear hg1
    have hkw5p : Kept No w3 ((w3.alloc (.cells #[.int .u16 (i : Int), .string s] 46))) := ((Kept.refl No w3).alloc _)
    generalize (w3.alloc (.cells #[.int .u16 (i : Int), .string s] 46)) = w5 at *
    refine hK9.out _ _ ?_ (fun hHeld2 => ?_)
    · exact hkw5
    clear hK9 K9 hHeld2
    refine wpAnyH_ready (rs := [11]) (by kernel_rfl) (by simp) ?_
    refine AllReadyH.cons rfl (fun K9 hK9 => ?_) AllReadyH.nil
    first | go_simp | skip
    have hkw6 : Kept No w ((w5.alloc (.cells #[.slice a N c, .slice (some ⟨g1, 0, none⟩) 1 1, .slice (offA a c (N)) NB (c - (N))] 29))) := (hkw5.alloc _)
    have hbg2 : Blk ((w5.alloc (.cells #[.slice a N c, .slice (some ⟨g1, 0, none⟩) 1 1, .slice (offA a c (N)) NB (c - (N))] 29))) w5.heap.size 29 #[.slice a N c, .slice (some ⟨g1, 0, none⟩) 1 1, .slice (offA a c (N)) NB (c - (N))] := Blk.new w5 29 #[.slice a N c, .slice (some ⟨g1, 0, none⟩) 1 1, .slice (offA a c (N)) NB (c - (N))]
    obtain ⟨g2, hg2⟩ : ∃ g, g = w5.heap.size := ⟨_, rfl⟩
    rw [← hg2] at hbg2
    rw [← hg2]
    clear hg2
    have hkw6p : Kept No w5 ((w5.alloc (.cells #[.slice a N c, .slice (some ⟨g1, 0, none⟩) 1 1, .slice (offA a c (N)) NB (c - (N))] 29))) := ((Kept.refl No w5).alloc _)
    generalize (w5.alloc (.cells #[.slice a N c, .slice (some ⟨g1, 0, none⟩) 1 1, .slice (offA a c (N)) NB (c - (N))] 29)) = w6 at *
    refine hK9.out _ _ ?_ (fun hHeld2 => ?_)
    · exact hkw6
    clear hK9 K9 hHeld2
    refine wpAnyH_ready (rs := [12]) (by kernel_rfl) (by simp) ?_
    refine AllReadyH.cons rfl (fun K9 hK9 => ?_) AllReadyH.nil
    go_simp
    have hk56 : Kept No w5 w6 := hkw6p
    go_wp2_with (go_at_call 25; refine (HCC.out _ g1 g2 hkw6 hbg2 ((row_of_blk hbg1).keptNo hk56)).mono ?_; rintro e w7 ⟨a7, c7, rfl, hown7, hk7⟩)
    have hkw7 := hkw6.trans hk7
    refine hK9.out _ _ ?_ (fun hHeld2 => ?_)
    · exact hkw7
    clear hK9 K9
    refine wpAnyH_take (i := 13) (v := .slice a7 M.length c7) rfl (by kernel_rfl) (by kernel_rfl) (by kernel_rfl) (fun _ _ _ h => h) (Or.inl ⟨by rfl, ?hh13wn⟩) (by assumption) ?rr13wn
    case hh13wn => (intro wz9 hSw; (try dsimp only at hSw); go_simp; try with_reducible rfl)
    go_simp
    refine wpAnyH_done (by kernel_rfl) ?_ _
    go_wp2
    go_ret
    exact ⟨a7, c7, rfl, own_tb hown7, hHeld2⟩
  | some r =>
    rw [hu] at hc cF
    have HF := Lib.hid (show ∀ wx, Row wx a (RC L) → Calls Tryd.prog 20 #[.slice a L.length c, .int .u16 i] wx (FindIs (loL L i).length true wx) from cF)
    have HALL : Hid (L = loL L i ++ (r :: hiL L i)) := Lib.hid hc.all
    have hlen2 := congrArg List.length HALL.out
    rw [List.length_append, List.length_cons] at hlen2
    generalize loL L i = A at *
    generalize hiL L i = B at *
    have hcap := ht.cap
    have hrA : ∀ wx, Kept No w wx → Row wx a (RC A) := fun wx hk => (by have := ht.row.keptNo hk; rw [HALL.out] at this; exact row_left this)
    have hrB : ∀ wx, Kept No w wx → Row wx (offA a c (A.length + 1)) (RC B) := fun wx hk => (by
      have h1 := ht.row.keptNo hk
      rw [HALL.out] at h1
      rw [show A ++ r :: B = (A ++ [r]) ++ B by simp] at h1
      have h2 := row_right (c := c) h1 (by have h9 := congrArg List.length HALL.out; simp at h9 ⊢; omega)
      rwa [show (A ++ [r]).length = A.length + 1 by simp] at h2)
    have hnA : a = none → A.length = 0 ∧ c = 0 := fun h => by have := ht.nil h; omega
    have hnB : offA a c (A.length + 1) = none → B.length = 0 ∧ c - (A.length + 1) = 0 := fun h => by have := ht.nil (offA_none h); omega
    have HRA := Lib.hid (And.intro hrA (And.intro hrB (And.intro hnA hnB)))
    have hcN : A.length + 1 ≤ c := by omega
    have hNl : A.length ≤ 1000 := by omega
    have hBl : B.length ≤ 1000 := by omega
    clear hrA hrB hnA hnB hc hu cF hR
    obtain ⟨N, hN⟩ : ∃ N, N = A.length := ⟨_, rfl⟩
    obtain ⟨NB, hNB⟩ : ∃ N, N = B.length := ⟨_, rfl⟩
    obtain ⟨M, hM⟩ : ∃ M, M = A ++ (⟨i, s⟩ : Rw) :: B := ⟨_, rfl⟩
    have cCC := (fun wx g1 g2 hk h2 h1 => concat3g a (offA a c (A.length + 1)) c (c - (A.length + 1)) A B ⟨i, s⟩ g1 g2 N NB wx hN hNB h2 h1 (HRA.out.1 wx hk) (HRA.out.2.1 wx hk) HRA.out.2.2.1 HRA.out.2.2.2 (by omega) (by omega))
    rw [← hM] at cCC ⊢
    rw [← hN] at HF hcN hNl hlen2 cCC
    rw [← hNB] at hBl hlen2
    have HCC := Lib.hid cCC
    have HLN := Lib.hid hlen2
    have hNL : N + 1 ≤ L.length := by omega
    have hNI : (N : Int) + 1 ≤ 2000 := by omega
    have hNc9 : N ≤ c := by omega
    have hNl9 : N ≤ L.length := by omega
    clear hN hNB hlen2 cCC hM
    go_enter Tryd.func18, Tryd.ntmps18
    go_wp2_with (go_at_call 20; refine (HF.out _ ht.row).mono ?_; rintro e w2 ⟨rfl, hk2⟩)
    refine wp_region_held_drew (S := (fun wx => Kept No w wx)) (by kernel_rfl) ?_ (fun hHeld => ?_)
    · exact hk2.drew
    refine wpAnyH_take (i := 0) (v := (.slice a L.length c)) rfl (by kernel_rfl) (by kernel_rfl) (by kernel_rfl) (fun _ _ _ h => h) (Or.inl ⟨by rfl, ?hhwu0⟩) (by assumption) ?rrwu0
    case hhwu0 => (intro wz9 hSw; (try dsimp only at hSw); go_simp; try with_reducible rfl)
    go_simp
    refine wpAnyH_take (i := 1) (v := (.int .i64 (N : Int))) rfl (by kernel_rfl) (by kernel_rfl) (by kernel_rfl) (fun _ _ _ h => h) (Or.inl ⟨by rfl, ?hhwu1⟩) (by assumption) ?rrwu1
    case hhwu1 => (intro wz9 hSw; (try dsimp only at hSw); go_simp; try with_reducible rfl)
    go_simp
    refine wpAnyH_take (i := 2) (v := (.slice a N c)) rfl (by kernel_rfl) (by kernel_rfl) (by kernel_rfl) (fun _ _ _ h => h) (Or.inl ⟨by rfl, ?hhwu2⟩) (by assumption) ?rrwu2
    case hhwu2 => (intro wz9 hSw; (try dsimp only at hSw); go_simp; try with_reducible rfl)
    go_simp
    refine wpAnyH_take (i := 3) (v := (.int .u16 (i : Int))) rfl (by kernel_rfl) (by kernel_rfl) (by kernel_rfl) (fun _ _ _ h => h) (Or.inl ⟨by rfl, ?hhwu3⟩) (by assumption) ?rrwu3
    case hhwu3 => (intro wz9 hSw; (try dsimp only at hSw); go_simp; try with_reducible rfl)
    go_simp
    refine wpAnyH_take (i := 4) (v := (.string s)) rfl (by kernel_rfl) (by kernel_rfl) (by kernel_rfl) (fun _ _ _ h => h) (Or.inl ⟨by rfl, ?hhwu4⟩) (by assumption) ?rrwu4
    case hhwu4 => (intro wz9 hSw; (try dsimp only at hSw); go_simp; try with_reducible rfl)
    go_simp
    refine wpAnyH_take (i := 8) (v := (.slice a L.length c)) rfl (by kernel_rfl) (by kernel_rfl) (by kernel_rfl) (fun _ _ _ h => h) (Or.inl ⟨by rfl, ?hhwu8⟩) (by assumption) ?rrwu8
    case hhwu8 => (intro wz9 hSw; (try dsimp only at hSw); go_simp; try with_reducible rfl)
    go_simp
    refine wpAnyH_take (i := 9) (v := (.int .i64 ((N : Int) + 1))) rfl (by kernel_rfl) (by kernel_rfl) (by kernel_rfl) (fun _ _ _ h => h) (Or.inl ⟨by rfl, ?hhwu9⟩) (by assumption) ?rrwu9
    case hhwu9 => (intro wz9 hSw; (try dsimp only at hSw); go_simp; try with_reducible rfl)
    go_simp
    refine wpAnyH_take (i := 10) (v := (.slice (offA a c (N + 1)) NB (c - (N + 1)))) rfl (by kernel_rfl) (by kernel_rfl) (by kernel_rfl) (fun _ _ _ h => h) (Or.inl ⟨by rfl, ?hhwu10⟩) (by assumption) ?rrwu10
    case hhwu10 => (intro wz9 hSw; clear hSw; go_simp; rw [if_pos ⟨by omega, by omega⟩, show L.length - (N + 1) = NB by have := HLN.out; omega]; rfl)
    go_simp
    refine wpAnyH_ready (rs := [5]) (by kernel_rfl) (by simp) ?_
    refine AllReadyH.cons rfl (fun K9 hK9 => ?_) AllReadyH.nil
    go_simp
    go_wp2_with (go_at_call 19; refine (HCS.out _).mono ?_; rintro e w3 ⟨rfl, hk3⟩)
    have hk3w := hHeld.trans hk3
    refine hK9.out _ _ ?_ (fun hHeld2 => ?_)
    · exact hk3w
    clear hK9 K9 hHeld2
    go_simp
    refine wpAnyH_take (i := 6) (v := .agg #[.int .u16 (i : Int), .string s]) rfl (by kernel_rfl) (by kernel_rfl) (by kernel_rfl) (fun _ _ _ h => h) (Or.inl ⟨by rfl, ?hh6wu⟩) (by assumption) ?rr6wu
    case hh6wu => (intro wz9 hSw; (try dsimp only at hSw); go_simp; try with_reducible rfl)
    go_simp
    refine wpAnyH_ready (rs := [7]) (by kernel_rfl) (by simp) ?_
    refine AllReadyH.cons rfl (fun K9 hK9 => ?_) AllReadyH.nil
    first | go_simp | skip
    have hkw5 : Kept No w ((w3.alloc (.cells #[.int .u16 (i : Int), .string s] 46))) := (hk3w.alloc _)
    have hbg1 : Blk ((w3.alloc (.cells #[.int .u16 (i : Int), .string s] 46))) w3.heap.size 46 #[.int .u16 (i : Int), .string s] := Blk.new w3 46 #[.int .u16 (i : Int), .string s]
    obtain ⟨g1, hg1⟩ : ∃ g, g = w3.heap.size := ⟨_, rfl⟩
    rw [← hg1] at hbg1
    rw [← hg1]
    clear hg1
    have hkw5p : Kept No w3 ((w3.alloc (.cells #[.int .u16 (i : Int), .string s] 46))) := ((Kept.refl No w3).alloc _)
    generalize (w3.alloc (.cells #[.int .u16 (i : Int), .string s] 46)) = w5 at *
    refine hK9.out _ _ ?_ (fun hHeld2 => ?_)
    · exact hkw5
    clear hK9 K9 hHeld2
    refine wpAnyH_ready (rs := [11]) (by kernel_rfl) (by simp) ?_
    refine AllReadyH.cons rfl (fun K9 hK9 => ?_) AllReadyH.nil
    first | go_simp | skip
    have hkw6 : Kept No w ((w5.alloc (.cells #[.slice a N c, .slice (some ⟨g1, 0, none⟩) 1 1, .slice (offA a c (N + 1)) NB (c - (N + 1))] 29))) := (hkw5.alloc _)
    have hbg2 : Blk ((w5.alloc (.cells #[.slice a N c, .slice (some ⟨g1, 0, none⟩) 1 1, .slice (offA a c (N + 1)) NB (c - (N + 1))] 29))) w5.heap.size 29 #[.slice a N c, .slice (some ⟨g1, 0, none⟩) 1 1, .slice (offA a c (N + 1)) NB (c - (N + 1))] := Blk.new w5 29 #[.slice a N c, .slice (some ⟨g1, 0, none⟩) 1 1, .slice (offA a c (N + 1)) NB (c - (N + 1))]
    obtain ⟨g2, hg2⟩ : ∃ g, g = w5.heap.size := ⟨_, rfl⟩
    rw [← hg2] at hbg2
    rw [← hg2]
    clear hg2
    have hkw6p : Kept No w5 ((w5.alloc (.cells #[.slice a N c, .slice (some ⟨g1, 0, none⟩) 1 1, .slice (offA a c (N + 1)) NB (c - (N + 1))] 29))) := ((Kept.refl No w5).alloc _)
    generalize (w5.alloc (.cells #[.slice a N c, .slice (some ⟨g1, 0, none⟩) 1 1, .slice (offA a c (N + 1)) NB (c - (N + 1))] 29)) = w6 at *
    refine hK9.out _ _ ?_ (fun hHeld2 => ?_)
    · exact hkw6
    clear hK9 K9 hHeld2
    refine wpAnyH_ready (rs := [12]) (by kernel_rfl) (by simp) ?_
    refine AllReadyH.cons rfl (fun K9 hK9 => ?_) AllReadyH.nil
    go_simp
    have hk56 : Kept No w5 w6 := hkw6p
    go_wp2_with (go_at_call 25; refine (HCC.out _ g1 g2 hkw6 hbg2 ((row_of_blk hbg1).keptNo hk56)).mono ?_; rintro e w7 ⟨a7, c7, rfl, hown7, hk7⟩)
    have hkw7 := hkw6.trans hk7
    refine hK9.out _ _ ?_ (fun hHeld2 => ?_)
    · exact hkw7
    clear hK9 K9
    refine wpAnyH_take (i := 13) (v := .slice a7 M.length c7) rfl (by kernel_rfl) (by kernel_rfl) (by kernel_rfl) (fun _ _ _ h => h) (Or.inl ⟨by rfl, ?hh13wu⟩) (by assumption) ?rr13wu
    case hh13wu => (intro wz9 hSw; (try dsimp only at hSw); go_simp; try with_reducible rfl)
    go_simp
    refine wpAnyH_done (by kernel_rfl) ?_ _
    go_wp2
    go_ret
    exact ⟨a7, c7, rfl, own_tb hown7, hHeld2⟩

def getR (L : List Rw) (o : Option Rw) : List Rw × ByteArray × Int := match o with | none => (L, ⟨#[]⟩, 8) | some r => (L, r.tx, 0)
theorem iuse_get {L : List Rw} {most i : Nat} {o : Option Rw} (h0 : i ≠ 0) (hm : i ≤ most) (hu : ofL L i = o) : useR L most i ⟨#[]⟩ = getR L o := by
  have e : ¬ (i = 0 ∨ most < i ∨ ((⟨#[]⟩ : ByteArray).size ≠ 0 ∧ nameB ⟨#[]⟩ = false)) := by
    intro h
    rcases h with h | h | h
    · exact h0 h
    · omega
    · exact h.1 rfl
  unfold useR
  rw [if_neg e, if_neg (by intro h; exact h rfl)]
  subst hu
  rfl
set_option maxHeartbeats 4000000 in
theorem iuse_any (a : Option Addr) (c : Nat) (L : List Rw) (most i : Nat) (s : ByteArray) (w : World) (ht : Tb w a c L) (hR : rightGo 0 L = true) (hl : L.length ≤ 1000) (hs : s.size ≤ 100000) (hT : Tabs w) :
    Calls Tryd.prog 10 #[.slice a L.length c, .int .u16 most, .int .u16 i, .string s] w (UseIs (useR L most i s) w) := by
  have HCL := Lib.hid (fun wx (h : Tb wx a c L) => iclone_any a c L wx h.row h.nil (by omega))
  have HG := Lib.hid (fun wx (h : Row wx a (RC L)) => iget_any a c L i wx h hR hl)
  have cN := fun wx hT => name_any s wx (by omega) hT
  by_cases h0 : i = 0
  · have HN : Hid (useR L most i s = (L, ⟨#[]⟩, 1)) := Lib.hid (by unfold useR; rw [if_pos (.inl h0)])
    generalize useR L most i s = R at *
    clear cN hR HG
    subst h0
    go_enter Tryd.func10, Tryd.ntmps10
    go_wp2_with (go_at_call 17; refine (HCL.out _ ht).mono ?_; rintro e w4 ⟨a4, c4, rfl, hown4, hk4⟩)
    go_ret3
    exact useIs_of HN.out (own_tb hown4) hk4
  have h0I : ((i : Int) == 0) = false := by simp; omega
  by_cases hm : i ≤ most
  case neg =>
    have hmI : (most : Int) < (i : Int) := by omega
    have HN : Hid (useR L most i s = (L, ⟨#[]⟩, 1)) := Lib.hid (by unfold useR; rw [if_pos (.inr (.inl (by omega)))])
    generalize useR L most i s = R at *
    clear cN hR h0 HG
    go_enter Tryd.func10, Tryd.ntmps10
    go_wp2_with (go_at_call 17; refine (HCL.out _ ht).mono ?_; rintro e w4 ⟨a4, c4, rfl, hown4, hk4⟩)
    go_ret3
    exact useIs_of HN.out (own_tb hown4) hk4
  have hmI : ¬ (most : Int) < (i : Int) := by omega
  by_cases hz : s.size = 0
  · obtain rfl := empty_of hz
    have hget := fun o hu => iuse_get (L := L) (most := most) (i := i) (o := o) h0 hm hu
    cases hu : ofL L i with
    | none =>
      have HN := Lib.hid (show useR L most i ⟨#[]⟩ = (L, ⟨#[]⟩, 8) from hget _ hu)
      rw [hu] at HG
      have HG2 := Lib.hid (show ∀ wx, Row wx a (RC L) → Calls Tryd.prog 13 #[.slice a L.length c, .int .u16 i] wx (fun e w' => e = .returned (.tuple #[.string ⟨#[]⟩, .bool false]) ∧ Kept No wx w') from HG.out)
      generalize useR L most i ⟨#[]⟩ = R at *
      clear cN hR h0 HG hget hu hz
      go_enter Tryd.func10, Tryd.ntmps10
      go_wp2_with (first
        | (go_at_call 13; refine (HG2.out _ ht.row).mono ?_; rintro e w3 ⟨rfl, hk3⟩)
        | (go_at_call 17; refine (HCL.out _ (ht.keptNo hk3)).mono ?_; rintro e w4 ⟨a4, c4, rfl, hown4, hk4⟩))
      go_ret3
      exact useIs_of HN.out (own_tb hown4) (hk3.trans hk4)
    | some r =>
      obtain ⟨id, tx⟩ := r
      have HN := Lib.hid (show useR L most i ⟨#[]⟩ = (L, tx, 0) from hget _ hu)
      rw [hu] at HG
      have HG2 := Lib.hid (show ∀ wx, Row wx a (RC L) → Calls Tryd.prog 13 #[.slice a L.length c, .int .u16 i] wx (fun e w' => e = .returned (.tuple #[.string tx, .bool true]) ∧ Kept No wx w') from HG.out)
      generalize useR L most i ⟨#[]⟩ = R at *
      clear cN hR h0 HG hget hu hz
      go_enter Tryd.func10, Tryd.ntmps10
      go_wp2_with (first
        | (go_at_call 13; refine (HG2.out _ ht.row).mono ?_; rintro e w3 ⟨rfl, hk3⟩)
        | (go_at_call 17; refine (HCL.out _ (ht.keptNo hk3)).mono ?_; rintro e w4 ⟨a4, c4, rfl, hown4, hk4⟩))
      go_ret3
      exact useIs_of HN.out (own_tb hown4) (hk3.trans hk4)
  · have hsE := isEmpty_of (s := s) (by omega)
    have hsN : (!s.toList.isEmpty) = true := by rw [hsE]; rfl
    cases hnm : nameB s with
    | false =>
      have HN : Hid (useR L most i s = (L, ⟨#[]⟩, 1)) := Lib.hid (by unfold useR; rw [if_pos (.inr (.inr ⟨hz, hnm⟩))])
      rw [hnm] at cN
      have HNM := Lib.hid cN
      generalize useR L most i s = R at *
      clear cN hR h0 HG hz hnm
      go_enter Tryd.func10, Tryd.ntmps10
      go_wp2_with (first
        | (go_at_call 15; refine (HNM.out _ hT).mono ?_; rintro e w3 ⟨rfl, hk3⟩)
        | (go_at_call 17; refine (HCL.out _ (ht.keptNo hk3)).mono ?_; rintro e w4 ⟨a4, c4, rfl, hown4, hk4⟩))
      go_ret3
      exact useIs_of HN.out (own_tb hown4) (hk3.trans hk4)
    | true =>
      have hsz := name_size hnm
      have HN : Hid (useR L most i s = (putR L i (some ⟨i, s⟩), s, 0)) := Lib.hid (by unfold useR; rw [if_neg (by rw [hnm]; simp; exact ⟨h0, hm⟩), if_pos hz])
      rw [hnm] at cN
      have HNM := Lib.hid cN
      have HW := Lib.hid (fun wx (h : Tb wx a c L) => iwith_any a c L i s wx h hR hl hsz)
      have HCS := Lib.hid (fun wx => clone_any s wx (by omega))
      generalize useR L most i s = R at *
      generalize putR L i (some ⟨i, s⟩) = M at *
      clear cN hR h0 HG hz hnm
      go_enter Tryd.func10, Tryd.ntmps10
      go_wp2_with (first
        | (go_at_call 15; refine (HNM.out _ hT).mono ?_; rintro e w3 ⟨rfl, hk3⟩)
        | (go_at_call 18; refine (HW.out _ (ht.keptNo hk3)).mono ?_; rintro e w4 ⟨a4, c4, rfl, ht4, hk4⟩)
        | (go_at_call 19; refine (HCS.out _).mono ?_; rintro e w5 ⟨rfl, hk5⟩))
      go_ret3
      exact useIs_of HN.out (ht4.keptNo hk5) ((hk3.trans hk4).trans hk5)

theorem useR_no {L : List Rw} {most i : Nat} {s : ByteArray} (h : i = 0 ∨ most < i ∨ (s.size ≠ 0 ∧ nameB s = false)) : useR L most i s = (L, ⟨#[]⟩, 1) := by unfold useR; rw [if_pos h]
set_option maxHeartbeats 4000000 in
theorem ruse_any (a : Option Addr) (c : Nat) (L : List Rw) (most i : Nat) (s : ByteArray) (w : World) (ht : Tb w a c L) (hR : rightGo 0 L = true) (hl : L.length ≤ 1000) (hs : s.size ≤ 100000) :
    Calls Tryd.prog 11 #[.slice a L.length c, .int .u16 most, .int .u16 i, .string s] w (UseIs (useR L most i s) w) := by
  have HG := Lib.hid (fun wx (h : Row wx a (RC L)) => rget_any a c L i wx h (by omega))
  have cN := fun wx => rname_any s wx (by omega)
  by_cases h0 : i = 0
  · have HN := Lib.hid (useR_no (L := L) (most := most) (s := s) (.inl h0))
    generalize useR L most i s = R at *
    clear cN hR HG
    subst h0
    go_enter Tryd.func11, Tryd.ntmps11
    go_wp2
    go_ret3
    exact useIs_of HN.out ht (Kept.refl _ _)
  have h0I : ((i : Int) == 0) = false := by simp; omega
  by_cases hm : i ≤ most
  case neg =>
    have hmI : (most : Int) < (i : Int) := by omega
    have HN := Lib.hid (useR_no (L := L) (most := most) (i := i) (s := s) (.inr (.inl (by omega))))
    generalize useR L most i s = R at *
    clear cN hR h0 HG
    go_enter Tryd.func11, Tryd.ntmps11
    go_wp2
    go_ret3
    exact useIs_of HN.out ht (Kept.refl _ _)
  have hmI : ¬ (most : Int) < (i : Int) := by omega
  by_cases hz : s.size = 0
  · obtain rfl := empty_of hz
    have hget := fun o hu => iuse_get (L := L) (most := most) (i := i) (o := o) h0 hm hu
    cases hu : ofL L i with
    | none =>
      have HN := Lib.hid (show useR L most i ⟨#[]⟩ = (L, ⟨#[]⟩, 8) from hget _ hu)
      rw [hu] at HG
      have HG2 := Lib.hid (show ∀ wx, Row wx a (RC L) → Calls Tryd.prog 14 #[.slice a L.length c, .int .u16 i] wx (fun e w' => e = .returned (.tuple #[.string ⟨#[]⟩, .bool false]) ∧ Kept No wx w') from HG.out)
      generalize useR L most i ⟨#[]⟩ = R at *
      clear cN hR h0 HG hget hu hz
      go_enter Tryd.func11, Tryd.ntmps11
      go_wp2_with (go_at_call 14; refine (HG2.out _ ht.row).mono ?_; rintro e w3 ⟨rfl, hk3⟩)
      go_ret3
      exact useIs_of HN.out (ht.keptNo hk3) hk3
    | some r =>
      obtain ⟨id, tx⟩ := r
      have HN := Lib.hid (show useR L most i ⟨#[]⟩ = (L, tx, 0) from hget _ hu)
      rw [hu] at HG
      have HG2 := Lib.hid (show ∀ wx, Row wx a (RC L) → Calls Tryd.prog 14 #[.slice a L.length c, .int .u16 i] wx (fun e w' => e = .returned (.tuple #[.string tx, .bool true]) ∧ Kept No wx w') from HG.out)
      generalize useR L most i ⟨#[]⟩ = R at *
      clear cN hR h0 HG hget hu hz
      go_enter Tryd.func11, Tryd.ntmps11
      go_wp2_with (go_at_call 14; refine (HG2.out _ ht.row).mono ?_; rintro e w3 ⟨rfl, hk3⟩)
      go_ret3
      exact useIs_of HN.out (ht.keptNo hk3) hk3
  · cases hnm : nameB s with
    | false =>
      have hsE := isEmpty_of (s := s) (by omega)
      have hsN : (!s.toList.isEmpty) = true := by rw [hsE]; rfl
      have HN := Lib.hid (useR_no (L := L) (most := most) (i := i) (.inr (.inr ⟨hz, hnm⟩)))
      rw [hnm] at cN
      have HNM := Lib.hid cN
      generalize useR L most i s = R at *
      clear cN hR h0 HG hz hnm
      go_enter Tryd.func11, Tryd.ntmps11
      go_wp2_with (go_at_call 16; refine (HNM.out _).mono ?_; rintro e w3 ⟨rfl, hk3⟩)
      go_ret3
      exact useIs_of HN.out (ht.keptNo hk3) hk3
    | true =>
      have e : useR L most i s = (withGo i ⟨i, s⟩ L false, s, 0) := by unfold useR; rw [if_neg (by rw [hnm]; simp; exact ⟨h0, hm⟩), if_pos hz, withGo_put _ (asc_of hR)]
      rw [e]
      exact ruse_put a c L most i s w ht.row (by omega) hs h0 hm hnm hz

end Go.Proofs.YtlgbljohhnhhkaaDoor
