/-
  Contract of the document's Put.
-/
import Derived.Test.YtfhcmmmgnkinoaaDoorPxH
namespace Go.Proofs.YtfhcmmmgnkinoaaDoor
open Go.RowKit
set_option linter.unusedVariables false
set_option linter.unusedSimpArgs false
set_option maxRecDepth 100000

theorem lenGo_all : ∀ (L : List Pr) (m : Nat), (∀ p ∈ L, p.wf') → (∀ p ∈ L, p.ok = true) → m + (layAll L).length ≤ 268435455 → lenGo L m = some (m + (layAll L).length)
  | [], m, _, _, _ => rfl
  | p :: t, m, hw, hk, h => by
    have hl : p.lay.length = p.size := layP_len (Pr.fits (hw p (by simp)) (hk p (by simp)))
    have e : (layAll (p :: t)).length = p.size + (layAll t).length := by rw [show layAll (p :: t) = p.lay ++ layAll t from rfl, List.length_append, hl]
    rw [e] at h ⊢
    rw [lenGo, if_pos (hk p (by simp)), if_pos (by omega), lenGo_all t _ (fun q hq => hw q (List.mem_cons_of_mem _ hq)) (fun q hq => hk q (List.mem_cons_of_mem _ hq)) (by omega)]
    congr 1
    omega
theorem lenGo_bad {L : List Pr} {p : Pr} (hw : ∀ p ∈ L, p.wf') (hp : p ∈ L) (h : p.ok = false) : lenGo L 0 = none := by
  rcases hG : lenGo L 0 with _ | n
  · rfl
  · have := (lenGo_some L 0 n hw hG (by omega)).1 p hp
    rw [h] at this; cases this
theorem lenGo_long {L : List Pr} (hw : ∀ p ∈ L, p.wf') (h : 268435455 < (layAll L).length) : lenGo L 0 = none := by
  rcases hG : lenGo L 0 with _ | n
  · rfl
  · have := (lenGo_some L 0 n hw hG (by omega)).2
    omega
theorem lay_le {p : Pr} (hw : p.wf') (h : p.ok = true) : p.lay.length ≤ 131075 := by
  rw [show p.lay.length = p.size from layP_len (Pr.fits hw h)]
  obtain ⟨h1, h2⟩ := fits_of hw.hid hw.hn h
  exact (szP_le h1 h2).2
theorem own_form {w : World} {base n size : Nat} {e : TypeId} {v : Value} {xs : List Value} (h : w.ownsRow base e size v n xs) : ∃ a c, v = .slice a n c ∧ Row w a xs ∧ (a = none → n = 0 ∧ c = 0) := by
  rcases h.2 with ⟨hv, h0⟩ | ⟨g, cap, cur, hv, _⟩
  · subst hv h0
    exact ⟨none, 0, rfl, (own_row h).1, fun _ => ⟨rfl, rfl⟩⟩
  · subst hv
    exact ⟨_, _, rfl, (own_row h).1, fun h => by cases h⟩
def RPutIs (l : List UInt8) (L : List Pr) (w : World) (e : Ending) (w' : World) : Prop :=
  ∃ a' c', e = .returned (.tuple #[.slice a' (putL l L).length c', .bool (lenGo L 0).isSome]) ∧ Row w' a' (B8 (putL l L)) ∧ (a' = none → c' = 0) ∧ Kept No w w'
theorem rput_no {l : List UInt8} {L : List Pr} {w w' : World} {a : Option Addr} {c : Nat} (h : lenGo L 0 = none) (hr : Row w' a (B8 l)) (hn : a = none → c = 0) (hk : Kept No w w') : RPutIs l L w (.returned (.tuple #[.slice a l.length c, .bool false])) w' := by
  have e : putL l L = l := by unfold putL; rw [h]
  exact ⟨a, c, by rw [e, h]; rfl, by rw [e]; exact hr, hn, hk⟩
theorem rput_yes {l : List UInt8} {L : List Pr} {n m : Nat} {w w' : World} {v : Value} {xs : List Value} (h : lenGo L 0 = some n) (hown : w'.ownsRow w.heap.size 5 1 v m xs) (hm : m = (addVar l n ++ layAll L).length) (hx : xs = B8 (addVar l n ++ layAll L)) (hk : Kept No w w') : RPutIs l L w (.returned (.tuple #[v, .bool true])) w' := by
  have e : putL l L = addVar l n ++ layAll L := by unfold putL; rw [h]
  obtain ⟨a, c, h1, h2, h3⟩ := ownB_of hown hm hx hk
  injection h1 with h1
  subst h1
  obtain ⟨q1, q2⟩ := own_row h2
  exact ⟨a, c, by rw [e, h]; rfl, by rw [e]; exact q1, fun h => (q2 h).2, hk⟩

set_option maxHeartbeats 4000000 in
theorem rput_any (a : Option Addr) (c : Nat) (l : List UInt8) (a9 : Option Addr) (c9 : Nat) (L : List Pr) (w : World) (hr : Row w a (B8 l)) (hn : a = none → l.length = 0 ∧ c = 0) (hl : l.length ≤ 1000) (hr9 : Row w a9 (PC L)) (hl9 : L.length ≤ 1000) (hw : ∀ p ∈ L, p.wf') :
    Calls Tryd.prog 14 #[.slice a l.length c, .slice a9 L.length c9] w (RPutIs l L w) := by
  obtain ⟨i0, hi, hz0, hz1, hz2⟩ := info_parts info_u8
  have HW := Lib.hid hw
  clear hw
  go_enter Tryd.func14, Tryd.ntmps14
  go_wp2
  go_loopw [6, 7] (fun v i wr => ∃ (j : Nat) (d : List UInt8), i = .int .i64 j ∧ j ≤ L.length ∧ Hid (d = layAll (L.take j)) ∧ Hid (∀ p ∈ L.take j, p.ok = true) ∧ d.length ≤ 131075 * j ∧ wr.ownsRow w.heap.size 5 1 v d.length (B8 d) ∧ Kept No w wr) (fun _ i _ => L.length - (intOf i).toNat)
  case atStart => exact ⟨0, [], rfl, by omega, Lib.hid rfl, Lib.hid (by simp), by simp, World.ownsRow_nil _ _ _ _, Kept.refl _ _⟩
  case round =>
    obtain ⟨j, d, rfl, hj, HD, HA, hdn, hown, hk⟩ := hrel
    have hsz := hk.size
    by_cases hlt : j < L.length
    · obtain ⟨b, off, rfl, hb, q0, q1, q2, q3⟩ := (hr9.keptNo hk).prop hlt
      have HT2 := Lib.hid (take_pr hlt)
      have hmem := List.getElem_mem hlt
      have hpw := HW.out _ hmem
      have HBAD := Lib.hid (lenGo_bad HW.out hmem)
      have hle := lay_le hpw
      generalize hp : L[j] = p at *
      obtain ⟨id, pn, A, B⟩ := p
      obtain ⟨p1, p2, p3, p4⟩ := hpw
      dsimp only at q0 q1 q2 q3 p1 p2 p3 p4
      have cR := fun wx => rright_any id pn A B wx p1 p2 (by omega) (by omega)
      rw [show (⟨id, pn, A, B⟩ : Pr).ok = rightB id pn A B from rfl] at hle HBAD
      rcases hok : rightB id pn A B with _ | _
      · rw [hok] at cR HBAD
        have HC := Lib.hid cR
        have HG := Lib.hid (HBAD.out rfl)
        clear cR hok HBAD hle hmem hp
        go_wp2_with (go_at_call 48; refine (HC.out _).mono ?_; rintro e w2 ⟨rfl, hk2⟩)
        go_ret2
        exact rput_no HG.out (hr.keptNo (hk.trans hk2)) (fun h => (hn h).2) (hk.trans hk2)
      · rw [hok] at cR hle
        have HC := Lib.hid cR
        have hf := (fits_of p1 p2 hok).1
        have HL := Lib.hid (fun wx => one_any id pn A B wx hf)
        have HN : Hid (d ++ layP id pn A B = layAll (L.take (j + 1))) := Lib.hid (by rw [HT2.out, layAll_snoc, ← HD.out]; rfl)
        have HA2 : Hid (∀ p ∈ L.take (j + 1), p.ok = true) := Lib.hid (by
          rw [HT2.out]
          intro p hp
          rcases List.mem_append.1 hp with h | h
          · exact HA.out p h
          · rw [List.mem_singleton.1 h]; exact hok)
        have hle2 : (layP id pn A B).length ≤ 131075 := hle rfl
        generalize layP id pn A B = y at *
        clear cR hok HBAD hle hmem hf hp HA
        go_wp2_with (first
          | (go_at_call 48; refine (HC.out _).mono ?_; rintro e w2 ⟨rfl, hk2⟩; have s0 := (hk2.cell (p := ⟨b, off + j * 4, none⟩) hb (fun f => f)).trans q0; have s1 := (hk2.cell (p := ⟨b, off + j * 4 + 1, none⟩) hb (fun f => f)).trans q1; have s2 := (hk2.cell (p := ⟨b, off + j * 4 + 2, none⟩) hb (fun f => f)).trans q2; have s3 := (hk2.cell (p := ⟨b, off + j * 4 + 3, none⟩) hb (fun f => f)).trans q3)
          | (go_at_call 49; refine (HL.out _).mono ?_; rintro e w4 ⟨g4, c4, rfl, hg4, hown4, hk4⟩; have hown5 := own_keptNo (own_keptNo hown hk2) hk4)
          | (at_builtin; refine wpList_append_own _ rfl _ _ _ rfl w.heap.size 5 i0 _ 1 1 Tryd.underlying25 hi hz0 hz1 hz2 rfl (by decide) _ _ _ rfl hown5 ⟨g4, 0, none⟩ y.length c4 (B8 y) rfl (by simp) ?c1 (B8_one _) ?c2 ?c3 ?c4 ?_; rotate_right; intro v6 w6 hown6 hg6 _))
        case c1 => exact (Row.of_own hown4).at_add _ rfl
        case c2 => unfold maxLen; omega
        case c3 => omega
        case c4 => have := hk2.size; have := hk4.size; omega
        go_roundw
        case rel => exact ⟨j + 1, d ++ y, by go_num, by omega, Lib.hid HN.out, HA2, by rw [List.length_append]; omega, by simpa [B8_append] using hown6, ((hk.trans hk2).trans hk4).grown hg6 (own_no hown5)⟩
        case measure => simp [intOf]; omega
    · have hje : j = L.length := by omega
      have HE : Hid (d = layAll L) := Lib.hid (by rw [HD.out, List.take_of_length_le (by omega)])
      have HA2 : Hid (∀ p ∈ L, p.ok = true) := Lib.hid (by have := HA.out; rwa [List.take_of_length_le (by omega)] at this)
      have hbig : d.length ≤ 131075000 := by omega
      by_cases hlong : d.length ≤ 268435455
      · have hlI : decide ((268435455 : Int) < d.length) = false := by simp; omega
        have HG : Hid (lenGo L 0 = some d.length) := Lib.hid (by
          rw [HE.out]
          have := lenGo_all L 0 HW.out HA2.out (by rw [Nat.zero_add, ← HE.out]; exact hlong)
          rwa [Nat.zero_add] at this)
        have hvl := varL_le d.length
        have hal := addVar_len l d.length
        have HV := Lib.hid (fun wx h => refvX a c l d.length wx (by omega) h hn (by omega))
        have hap : (addVar l d.length).length ≤ 1004 := by omega
        have HYES := Lib.hid (fun w' v m xs h1 h2 h3 h4 => rput_yes (l := l) (L := L) (n := d.length) (w := w) (w' := w') (v := v) (m := m) (xs := xs) HG.out h1 h2 h3 h4)
        clear hal hvl hje
        generalize addVar l d.length = l1 at *
        obtain ⟨av, cv, rfl, hrv, hnv⟩ := own_form hown
        go_wp2_with (first
          | (go_at_call 50; refine (HV.out _ (hr.keptNo hk)).mono ?_; rintro e w2 ⟨g2, c2, rfl, hg2, hown2, hk2⟩)
          | (at_builtin; refine wpList_append_row _ rfl _ _ _ rfl w.heap.size 5 i0 _ 1 Tryd.underlying25 hi hz0 hz1 hz2 rfl _ _ _ rfl (own_mono hown2 hsz) av d.length cv (B8 d) rfl (by simp) ?e0 ?e1 (B8_one _) ?e2 ?e3 ?e4 ?_; rotate_right; intro v6 w6 hown6 hg6 _))
        case e0 => exact hrv.keptNo hk2
        case e1 => exact fun h => (hnv h).2
        case e2 => unfold maxLen; omega
        case e3 => omega
        case e4 => have := hk2.size; omega
        go_ret2
        exact HYES.out _ _ _ _ hown6 (by rw [List.length_append, HE.out]) (by rw [B8_append, HE.out]) ((hk.trans hk2).grown hg6 (own_no (own_mono hown2 hsz)))
      · omega

end Go.Proofs.YtfhcmmmgnkinoaaDoor
