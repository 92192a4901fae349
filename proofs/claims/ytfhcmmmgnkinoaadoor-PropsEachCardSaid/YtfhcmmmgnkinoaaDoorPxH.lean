/-
  Contracts of props.Put, Size.
-/
import Derived.Test.YtfhcmmmgnkinoaaDoorPxG
namespace Go.Proofs.YtfhcmmmgnkinoaaDoor
open Go.RowKit
set_option linter.unusedVariables false
set_option linter.unusedSimpArgs false
set_option maxRecDepth 100000

def layAll (L : List Pr) : List UInt8 := L.flatMap Pr.lay
theorem layAll_snoc (L : List Pr) (p : Pr) : layAll (L ++ [p]) = layAll L ++ p.lay := by simp [layAll]
theorem layAll_take (L : List Pr) (j : Nat) : (layAll (L.take j)).length ≤ (layAll L).length := by
  have h : layAll L = layAll (L.take j) ++ layAll (L.drop j) := by
    unfold layAll
    rw [← List.flatMap_append, List.take_append_drop]
  rw [h, List.length_append]; omega
theorem Pr.fits {p : Pr} (h : p.wf') (hk : p.ok = true) : Fits p.id p.n p.a p.b := (fits_of h.hid h.hn hk).1
theorem lenGo_some : ∀ (L : List Pr) (m n : Nat), (∀ p ∈ L, p.wf') → lenGo L m = some n → m ≤ 268435455 → (∀ p ∈ L, p.ok = true) ∧ m + (layAll L).length = n ∧ n ≤ 268435455
  | [], m, n, _, h, hm => by
    injection h with h
    subst h
    exact ⟨by simp, by simp [layAll], hm⟩
  | p :: t, m, n, hw, h, hm => by
    rw [lenGo] at h
    split at h
    · rename_i hk
      split at h
      · rename_i hb
        obtain ⟨h1, h2, h3⟩ := lenGo_some t _ n (fun q hq => hw q (List.mem_cons_of_mem _ hq)) h hb
        have hl : p.lay.length = p.size := layP_len (Pr.fits (hw p (by simp)) hk)
        refine ⟨fun q hq => ?_, ?_, h3⟩
        · rcases List.mem_cons.1 hq with rfl | hq
          · exact hk
          · exact h1 q hq
        · rw [show layAll (p :: t) = p.lay ++ layAll t from rfl, List.length_append, hl]; omega
      · cases h
    · cases h
theorem ownB_of {w w' : World} {v : Value} {l : List UInt8} {n : Nat} {xs : List Value} (h : w'.ownsRow w.heap.size 5 1 v n xs) (hn : n = l.length) (hx : xs = B8 l) (hk : Kept No w w') : OwnB w l (.returned v) w' := by
  subst hn hx
  rcases h.2 with ⟨hv, h0⟩ | ⟨g, cap, cur, hv, _⟩
  · subst hv
    exact ⟨none, 0, by rw [h0], by rw [h0] at h ⊢; exact h, hk⟩
  · subst hv
    exact ⟨_, _, rfl, h, hk⟩
/-- A section behind bytes, where there is one. -/
def putL (l : List UInt8) (L : List Pr) : List UInt8 := match lenGo L 0 with | some n => addVar l n ++ layAll L | none => l
def sizeR (L : List Pr) : Nat := match lenGo L 0 with | some n => (varL n).length + n | none => 0

set_option maxHeartbeats 4000000 in
theorem put_any (a : Option Addr) (c : Nat) (l : List UInt8) (a9 : Option Addr) (c9 : Nat) (L : List Pr) (w : World) (hr : Row w a (B8 l)) (hn : a = none → l.length = 0 ∧ c = 0) (hl : l.length ≤ 1000) (hr9 : Row w a9 (PC L)) (hl9 : L.length ≤ 100000) (hw : ∀ p ∈ L, p.wf') (hT : Tabs w) :
    Calls Tryd.prog 12 #[.slice a l.length c, .slice a9 L.length c9] w (OwnB w (putL l L)) := by
  obtain ⟨i0, hi, hz0, hz1, hz2⟩ := info_parts info_u8
  have cL := length_any a9 c9 L w hr9 hl9 hw hT
  unfold putL
  rcases hG : lenGo L 0 with _ | n
  · dsimp only
    rw [hG] at cL
    have HC := Lib.hid cL
    have HB := Lib.hid (fun wx h => bclone_any a c l wx h hn (by omega))
    clear cL hG
    go_enter Tryd.func12, Tryd.ntmps12
    go_wp2_with (first
      | (go_at_call 42; refine HC.out.mono ?_; rintro e w1 ⟨rfl, hk1⟩)
      | (go_at_call 43; refine (HB.out _ (hr.keptNo hk1)).mono ?_; rintro e w2 ⟨a2, c2, rfl, hown2, hk2⟩))
    go_ret
    exact OwnB.from ⟨a2, c2, rfl, hown2, hk2⟩ hk1
  · dsimp only
    rw [hG] at cL
    have HC := Lib.hid cL
    obtain ⟨hok, hlen, hn9⟩ := lenGo_some L 0 n hw hG (by omega)
    have hvl := varL_le n
    have hal := addVar_len l n
    have HOK := Lib.hid hok
    have HW := Lib.hid hw
    have HDL := Lib.hid (fun j => layAll_take L j)
    have HLN := Lib.hid hlen
    clear cL hG hok hw hlen
    have hap : (addVar l n).length ≤ 1004 := by omega
    have HV := Lib.hid (fun wx h => varX a c l n wx (by omega) h hn (by omega))
    have HAL := Lib.hid hal
    clear hal hvl
    generalize addVar l n = l1 at *
    go_enter Tryd.func12, Tryd.ntmps12
    go_wp2_with (first
      | (go_at_call 42; refine HC.out.mono ?_; rintro e w1 ⟨rfl, hk1⟩)
      | (go_at_call 45; refine (HV.out _ (hr.keptNo hk1)).mono ?_; rintro e w2 ⟨g2, c2, rfl, hg2, hown2, hk2⟩)
      | (go_at_call 44; refine (grow_any g2 c2 l1 n w.heap.size _ (own_mono hown2 hk1.size) (by omega) (by omega) (by have := hk1.size; have := hk2.size; omega)).mono ?_; rintro e w3 ⟨g3, c3, rfl, hown3, hk3⟩))
    have hkw := (hk1.trans hk2).trans hk3
    clear HC HV hk1 hk2 hk3 hown2
    go_loopw [7, 27] (fun v i wr => ∃ (j : Nat) (d : List UInt8), i = .int .i64 j ∧ j ≤ L.length ∧ Hid (d = layAll (L.take j)) ∧ d.length ≤ n ∧ wr.ownsRow w.heap.size 5 1 v (l1 ++ d).length (B8 (l1 ++ d)) ∧ Kept No w wr) (fun _ i _ => L.length - (intOf i).toNat)
    case atStart => exact ⟨0, [], rfl, by omega, Lib.hid rfl, by simp, by simpa using hown3, hkw⟩
    case round =>
      obtain ⟨j, d, rfl, hj, HD, hdn, hown, hk⟩ := hrel
      have hsz := hk.size
      by_cases hlt : j < L.length
      · obtain ⟨b, off, rfl, hb, q0, q1, q2, q3⟩ := (hr9.keptNo hk).prop hlt
        have HT2 := Lib.hid (take_pr hlt)
        have hmem := List.getElem_mem hlt
        have hf := Pr.fits (HW.out _ hmem) (HOK.out _ hmem)
        have hlj := HDL.out (j + 1)
        rw [HT2.out, layAll_snoc, List.length_append, ← HD.out] at hlj
        have hl9' := HLN.out
        have HN := Lib.hid (show d ++ (L[j]).lay = layAll (L.take (j + 1)) by rw [HT2.out, layAll_snoc, ← HD.out])
        have hdj : d.length + (L[j]).lay.length ≤ n := by omega
        clear hlj hl9' hmem
        generalize L[j] = p at *
        obtain ⟨id, pn, A, B⟩ := p
        dsimp only at q0 q1 q2 q3 hf
        have HL := Lib.hid (fun wx => lay_any id pn A B wx hf)
        rw [show (⟨id, pn, A, B⟩ : Pr).lay = layP id pn A B from rfl] at HN hdj
        generalize layP id pn A B = y at *
        clear hf
        go_wp2_with (first
          | (go_at_call 46; refine (HL.out _).mono ?_; rintro e w4 ⟨g4, c4, rfl, hg4, hown4, hk4⟩; have hown5 := own_keptNo (own_keptNo hown ((Kept.refl No wr).alloc _)) hk4)
          | (at_builtin; refine wpList_append_own _ rfl _ _ _ rfl w.heap.size 5 i0 _ 1 1 Tryd.underlying25 hi hz0 hz1 hz2 rfl (by decide) _ _ _ rfl hown5 ⟨g4, 0, none⟩ y.length c4 (B8 y) rfl (by simp) ?c1 (B8_one _) ?c2 ?c3 ?c4 ?_; rotate_right; intro v6 w6 hown6 hg6 _))
        case c1 => exact (Row.of_own hown4).at_add _ rfl
        case c2 => unfold maxLen; simp; omega
        case c3 => simp; omega
        case c4 => have := hk4.size; simp at this; omega
        go_roundw
        case rel => exact ⟨j + 1, d ++ y, by go_num, by omega, Lib.hid HN.out, by rw [List.length_append]; exact hdj, by simpa [B8_append, List.append_assoc, Nat.add_assoc] using hown6, ((hk.alloc _).trans hk4).grown hg6 (own_no hown5)⟩
        case measure => simp [intOf]; omega
      · have HE : Hid (d = layAll L) := Lib.hid (by rw [HD.out, List.take_of_length_le (by omega)])
        go_wp2
        go_ret
        exact ownB_of hown (by rw [HE.out]) (by rw [HE.out]) hk

set_option maxHeartbeats 1000000 in
theorem psize_any (a9 : Option Addr) (c9 : Nat) (L : List Pr) (w : World) (hr9 : Row w a9 (PC L)) (hl9 : L.length ≤ 100000) (hw : ∀ p ∈ L, p.wf') (hT : Tabs w) :
    Calls Tryd.prog 15 #[.slice a9 L.length c9] w fun e w' => e = .returned (.int .i64 (sizeR L)) ∧ Kept No w w' := by
  have cL := length_any a9 c9 L w hr9 hl9 hw hT
  unfold sizeR
  rcases hG : lenGo L 0 with _ | n
  · dsimp only
    rw [hG] at cL
    have HC := Lib.hid cL
    clear cL hG
    go_enter Tryd.func15, Tryd.ntmps15
    go_wp2_with (go_at_call 42; refine HC.out.mono ?_; rintro e w1 ⟨rfl, hk1⟩)
    go_ret
    exact ⟨rfl, hk1⟩
  · dsimp only
    rw [hG] at cL
    have HC := Lib.hid cL
    obtain ⟨hok, hlen, hn9⟩ := lenGo_some L 0 n hw hG (by omega)
    have hv := varL_size n (by omega)
    have hvl := varL_le n
    generalize (varL n).length = z at *
    have HV := Lib.hid hv
    clear cL hG hok hw hlen hv
    go_enter Tryd.func15, Tryd.ntmps15
    go_wp2_with (first
      | (go_at_call 42; refine HC.out.mono ?_; rintro e w1 ⟨rfl, hk1⟩)
      | (go_at_call 51; refine (HV.out _).mono ?_; rintro e w2 ⟨rfl, rfl⟩))
    go_ret
    exact ⟨by simp, hk1⟩

end Go.Proofs.YtfhcmmmgnkinoaaDoor
