/-
  AliasUses walked: made by mkals.py.
-/
import Derived.Test.YtlgbljohhnhhkaaDoorAlO
import Derived.Deep.RegionHeld3
namespace Go.Proofs.YtlgbljohhnhhkaaDoor
open Go.RowKit
set_option linter.unusedVariables false
set_option linter.unusedSimpArgs false
set_option maxRecDepth 100000

def FromIs (n : Nat) (L : List Rw) (w : World) (e : Ending) (w' : World) : Prop := ∃ a c, e = .returned (.slice a n c) ∧ Row w' a (RC L) ∧ Kept No w w'
theorem from_num (a : Option Addr) (c : Nat) (L : List Rw) (n : Nat) (w : World) (hr : Row w a (RC L)) (hl : L.length ≤ 1000) (hn : L.length = n) :
    Calls Tryd.prog 9 #[.slice a n c] w (FromIs n L w) := by
  subst hn
  exact (ifrom_any a c L w hr (by omega)).mono fun e w' h => by obtain ⟨a4, c4, h1, h2, h3⟩ := h.row; exact ⟨a4, c4, h1, h2.row, h3⟩
theorem same_num (a a9 : Option Addr) (c c9 : Nat) (L : List Rw) (n : Nat) (w : World) (hr : Row w a (RC L)) (hr9 : Row w a9 (RC L)) (hl : L.length ≤ 1000) (hn : L.length = n) :
    Calls Tryd.prog 12 #[.slice a n c, .slice a9 n c9] w (RightIs true w) := by
  subst hn
  have := rsame_any a c L a9 c9 L w hr hr9 (by omega) (by omega)
  rwa [decide_eq_true rfl] at this
theorem right_num (a : Option Addr) (c : Nat) (L : List Rw) (n : Nat) (w : World) (hr : Row w a (RC L)) (hl : L.length ≤ 1000) (hn : L.length = n) (h : rightGo 0 L = true) (ht : ∀ r ∈ L, r.tx.size ≤ 200) (hT : Tabs w) :
    Calls Tryd.prog 6 #[.slice a n c] w (RightIs true w) := by
  subst hn
  have := iright_any a c L w hr (by omega) (fun r hr => by have := ht r hr; omega) hT
  rwa [h] at this
theorem use_num (a : Option Addr) (c : Nat) (L : List Rw) (n most i : Nat) (s : ByteArray) (w : World) (ht : Tb w a c L) (hR : rightGo 0 L = true) (hl : L.length ≤ 1000) (hn : L.length = n) (hs : s.size ≤ 200) (hT : Tabs w) (M : List Rw) (us : ByteArray) (z : Int) (m : Nat) (hM : useR L most i s = (M, us, z)) (hm : M.length = m) :
    Calls Tryd.prog 10 #[.slice a n c, .int .u16 most, .int .u16 i, .string s] w (UseN m M us z w) := by
  subst hn
  exact (iuse_any a c L most i s w ht hR hl (by omega) hT).mono fun e w' h => h.num hM hm
theorem ruse_num (a : Option Addr) (c : Nat) (L : List Rw) (n most i : Nat) (s : ByteArray) (w : World) (ht : Tb w a c L) (hR : rightGo 0 L = true) (hl : L.length ≤ 1000) (hn : L.length = n) (hs : s.size ≤ 200) (M : List Rw) (us : ByteArray) (z : Int) (m : Nat) (hM : useR L most i s = (M, us, z)) (hm : M.length = m) :
    Calls Tryd.prog 11 #[.slice a n c, .int .u16 most, .int .u16 i, .string s] w (UseN m M us z w) := by
  subst hn
  exact (ruse_any a c L most i s w ht hR hl (by omega)).mono fun e w' h => h.num hM hm
theorem getV_form (o : Option Rw) : ∃ gs gb, getV o = .tuple #[.string gs, .bool gb] := by
  cases o with
  | none => exact ⟨_, _, rfl⟩
  | some r => exact ⟨_, _, rfl⟩
def PairIs (gs : ByteArray) (gb : Bool) (w : World) (e : Ending) (w' : World) : Prop := e = .returned (.tuple #[.string gs, .bool gb]) ∧ Kept No w w'
theorem get_num (a : Option Addr) (c : Nat) (L : List Rw) (n i : Nat) (w : World) (hr : Row w a (RC L)) (hR : rightGo 0 L = true) (hl : L.length ≤ 1000) (hn : L.length = n) (gs : ByteArray) (gb : Bool) (hg : getV (ofL L i) = .tuple #[.string gs, .bool gb]) :
    Calls Tryd.prog 13 #[.slice a n c, .int .u16 i] w (PairIs gs gb w) := by
  subst hn
  exact (iget_any a c L i w hr hR hl).mono fun e w' h => ⟨h.1.trans (by rw [hg]), h.2⟩
theorem rget_num (a : Option Addr) (c : Nat) (L : List Rw) (n i : Nat) (w : World) (hr : Row w a (RC L)) (hl : L.length ≤ 1000) (hn : L.length = n) (gs : ByteArray) (gb : Bool) (hg : getV (ofL L i) = .tuple #[.string gs, .bool gb]) :
    Calls Tryd.prog 14 #[.slice a n c, .int .u16 i] w (PairIs gs gb w) := by
  subst hn
  exact (rget_any a c L i w hr (by omega)).mono fun e w' h => ⟨h.1.trans (by rw [hg]), h.2⟩

/-- What is known of the table so far. -/
structure Inv (L : List Rw) (n most : Nat) : Prop where
  len : L.length = n
  right : rightGo 0 L = true
  upto : Upto most L
  small : ∀ r ∈ L, r.tx.size ≤ 200
theorem Inv.le {L : List Rw} {n most : Nat} (h : Inv L n most) : n ≤ most := by
  have := asc_len (asc_of h.right) h.upto (Nat.zero_le _)
  have := h.len
  omega
theorem Inv.step {L : List Rw} {n most i : Nat} {s : ByteArray} (h : Inv L n most) (hs : s.size ≤ 200) {M : List Rw} {us : ByteArray} {z : Int} {m : Nat} (hM : useR L most i s = (M, us, z)) (hm : M.length = m) : Inv M m most ∧ m ≤ n + 1 := by
  have h1 := useR_right (most := most) (i := i) (s := s) h.right
  have h2 := useR_upto (i := i) (s := s) h.upto
  have h3 := useR_small (most := most) (i := i) h.small hs
  have h4 := useR_len L most i s h.right
  rw [hM] at h1 h2 h3 h4
  exact ⟨⟨hm, h1, h2, h3⟩, by have := h.len; have h5 : M.length ≤ L.length + 1 := h4; omega⟩

set_option maxHeartbeats 8000000 in
theorem aliasUses_at (most : Nat) (a : Option Addr) (cap : Nat) (OL : List Opx) (w : World) (hmost : most < 65536) (hrow : Row w a (OC OL)) (hle : OL.length ≤ cap) (hcap : cap ≤ 9223372036854775807) (hwf : ∀ p ∈ OL, p.tx.size ≤ 9223372036854775807) (hT : Tabs w) :
    Calls Tryd.prog 4 #[.int .u16 most, .slice a OL.length cap] w fun e w' => e = .returned (.bool true) ∧ Below w.heap.size w w' := by
  have HFIN := Lib.hid (fun wx (hk : Kept No w wx) => hk.below (Nat.le_refl _) (fun _ _ f => f))
  have HT := Lib.hid (fun wx hT => told12_any wx hT)
  have HWF := Lib.hid hwf
  clear hwf
  go_enter Tryd.func4, Tryd.ntmps4
  go_wp2_with (go_at_call 5; refine (HT.out _ hT).mono ?_; rintro e w1 ⟨rfl, hk1⟩)
  go_loopw [5, 6, 7] (fun t u i wr => ∃ (j n c c9 : Nat) (a1 a9 : Option Addr) (L : List Rw), i = .int .i64 j ∧ t = .slice a1 n c ∧ u = .slice a9 n c9 ∧ n ≤ j ∧ j ≤ 60 ∧ j ≤ OL.length ∧ Hid (Inv L n most ∧ Tb wr a1 c L ∧ Tb wr a9 c9 L) ∧ Kept No w wr) (fun _ _ i _ => OL.length - (intOf i).toNat)
  case atStart => exact ⟨0, 0, 0, 0, none, none, [], rfl, rfl, rfl, by omega, by omega, by omega, Lib.hid ⟨⟨rfl, rfl, (fun r hr => by cases hr), (fun r hr => by cases hr)⟩, tb_nil _, tb_nil _⟩, hk1⟩
  case round =>
    obtain ⟨j, n, c, c9, a1, a9, L, rfl, rfl, rfl, hn, hj, hjl, HL, hk⟩ := hrel
    have HLE : Hid (n ≤ most) := Lib.hid HL.out.1.le
    by_cases hlt : j < OL.length
    · by_cases hj60 : j < 60
      · have hjI : (j : Int) < 60 := by omega
        obtain ⟨b, off, rfl, hb, q0, q1⟩ := (hrow.keptNo hk).opx hlt
        have hsz := HWF.out _ (List.getElem_mem hlt)
        generalize OL[j] = o at *
        obtain ⟨oi, os⟩ := o
        dsimp only at q0 q1 hsz
        by_cases h200 : os.size ≤ 200
        · have h2I : decide ((200 : Int) < (os.size : Int)) = false := by simp; omega
          obtain ⟨M, us, z, hMz⟩ : ∃ M us z, useR L most oi os = (M, us, z) := ⟨_, _, _, rfl⟩
          obtain ⟨m, hm⟩ : ∃ m, M.length = m := ⟨_, rfl⟩
          have hst := HL.out.1.step h200 hMz hm
          have hmle : m ≤ n + 1 := hst.2
          have HI := Lib.hid hst.1
          have HMZ := Lib.hid hMz
          have HLl : Hid (L.length ≤ 1000) := Lib.hid (by have := HL.out.1.len; omega)
          have HMl : Hid (M.length ≤ 1000) := Lib.hid (by omega)
          obtain ⟨gs, gb, hg⟩ := getV_form (ofL M oi)
          have HG := Lib.hid hg
          have H200 := Lib.hid h200
          have CF := Lib.hid (fun wx (hk : Kept No wr wx) => from_num a1 c L n wx (HL.out.2.1.row.keptNo hk) HLl.out HL.out.1.len)
          have CU := Lib.hid (fun wx (hk9 : Kept No wr wx) => use_num a1 c L n most oi os wx (HL.out.2.1.keptNo hk9) HL.out.1.right HLl.out HL.out.1.len H200.out (hT.kept (hk.trans hk9)) M us z m HMZ.out HI.out.len)
          have CR := Lib.hid (fun wx (hk9 : Kept No wr wx) => ruse_num a9 c9 L n most oi os wx (HL.out.2.2.keptNo hk9) HL.out.1.right HLl.out HL.out.1.len H200.out M us z m HMZ.out HI.out.len)
          have hzz : ((z : Int) != z) = false := by simp
          have HQ := Lib.hid (And.intro q0 q1)
          have HB := Lib.hid hb
          clear hst hMz hm hg
          go_wp2_with fail
          go_at_call 9
          refine (CF.out _ (Kept.refl No wr)).mono ?_
          rintro e w2 ⟨ah, ch, rfl, hrh, hk2⟩
          go_wp2_with fail
          refine wp_region_held_drew (S := (fun wx => Kept No wr wx)) (by kernel_rfl) ?_ (fun hHeld => ?_)
          · exact hk2.drew
          refine wpAnyH_take (i := 0) (v := (.slice a1 n c)) rfl (by kernel_rfl) (by kernel_rfl) (by kernel_rfl) (fun _ _ _ h => h) (Or.inl ⟨by rfl, ?hhua0⟩) (by assumption) ?rrua0
          case hhua0 => (intro wz9 hSw; (try dsimp only at hSw); go_simp; try with_reducible rfl)
          go_simp
          refine wpAnyH_take (i := 1) (v := (.int .u16 (most : Int))) rfl (by kernel_rfl) (by kernel_rfl) (by kernel_rfl) (fun _ _ _ h => h) (Or.inl ⟨by rfl, ?hhua1⟩) (by assumption) ?rrua1
          case hhua1 => (intro wz9 hSw; (try dsimp only at hSw); go_simp; try with_reducible rfl)
          go_simp
          refine wpAnyH_take (i := 2) (v := (.slice (some ⟨b, off, none⟩) OL.length cap)) rfl (by kernel_rfl) (by kernel_rfl) (by kernel_rfl) (fun _ _ _ h => h) (Or.inl ⟨by rfl, ?hhua2⟩) (by assumption) ?rrua2
          case hhua2 => (intro wz9 hSw; (try dsimp only at hSw); go_simp; try with_reducible rfl)
          go_simp
          refine wpAnyH_take (i := 3) (v := (.int .i64 (j : Int))) rfl (by kernel_rfl) (by kernel_rfl) (by kernel_rfl) (fun _ _ _ h => h) (Or.inl ⟨by rfl, ?hhua3⟩) (by assumption) ?rrua3
          case hhua3 => (intro wz9 hSw; (try dsimp only at hSw); go_simp; try with_reducible rfl)
          go_simp
          refine wpAnyH_take (i := 4) (v := (.pointer (some ⟨b, off + j * 2, none⟩))) rfl (by kernel_rfl) (by kernel_rfl) (by kernel_rfl) (fun _ _ _ h => h) (Or.inl ⟨by rfl, ?hhua4⟩) (by assumption) ?rrua4
          case hhua4 => (intro wz9 hSw; (try dsimp only at hSw); go_simp; try with_reducible rfl)
          go_simp
          refine wpAnyH_take (i := 5) (v := (.pointer (some ⟨b, off + j * 2, none⟩))) rfl (by kernel_rfl) (by kernel_rfl) (by kernel_rfl) (fun _ _ _ h => h) (Or.inl ⟨by rfl, ?hhua5⟩) (by assumption) ?rrua5
          case hhua5 => (intro wz9 hSw; (try dsimp only at hSw); go_simp; try with_reducible rfl)
          go_simp
          refine wpAnyH_take (i := 6) (v := (.int .u16 (oi : Int))) rfl (by kernel_rfl) (by kernel_rfl) (by kernel_rfl) (fun _ _ _ h => h) (Or.inl ⟨by rfl, ?hhua6⟩) (by assumption) ?rrua6
          case hhua6 => (intro wz9 hSw; have z0 := (hSw.cell (p := ⟨b, off + j * 2, none⟩) HB.out (fun f => f)).trans HQ.out.1; clear hSw; go_simp; try with_reducible rfl)
          go_simp
          refine wpAnyH_take (i := 7) (v := (.slice (some ⟨b, off, none⟩) OL.length cap)) rfl (by kernel_rfl) (by kernel_rfl) (by kernel_rfl) (fun _ _ _ h => h) (Or.inl ⟨by rfl, ?hhua7⟩) (by assumption) ?rrua7
          case hhua7 => (intro wz9 hSw; (try dsimp only at hSw); go_simp; try with_reducible rfl)
          go_simp
          refine wpAnyH_take (i := 8) (v := (.int .i64 (j : Int))) rfl (by kernel_rfl) (by kernel_rfl) (by kernel_rfl) (fun _ _ _ h => h) (Or.inl ⟨by rfl, ?hhua8⟩) (by assumption) ?rrua8
          case hhua8 => (intro wz9 hSw; (try dsimp only at hSw); go_simp; try with_reducible rfl)
          go_simp
          refine wpAnyH_take (i := 9) (v := (.pointer (some ⟨b, off + j * 2, none⟩))) rfl (by kernel_rfl) (by kernel_rfl) (by kernel_rfl) (fun _ _ _ h => h) (Or.inl ⟨by rfl, ?hhua9⟩) (by assumption) ?rrua9
          case hhua9 => (intro wz9 hSw; (try dsimp only at hSw); go_simp; try with_reducible rfl)
          go_simp
          refine wpAnyH_take (i := 10) (v := (.pointer (some ⟨b, off + j * 2 + 1, none⟩))) rfl (by kernel_rfl) (by kernel_rfl) (by kernel_rfl) (fun _ _ _ h => h) (Or.inl ⟨by rfl, ?hhua10⟩) (by assumption) ?rrua10
          case hhua10 => (intro wz9 hSw; (try dsimp only at hSw); go_simp; try with_reducible rfl)
          go_simp
          refine wpAnyH_take (i := 11) (v := (.string os)) rfl (by kernel_rfl) (by kernel_rfl) (by kernel_rfl) (fun _ _ _ h => h) (Or.inl ⟨by rfl, ?hhua11⟩) (by assumption) ?rrua11
          case hhua11 => (intro wz9 hSw; have z0 := (hSw.cell (p := ⟨b, off + j * 2 + 1, none⟩) HB.out (fun f => f)).trans HQ.out.2; clear hSw; go_simp; try with_reducible rfl)
          go_simp
          refine wpAnyH_ready (rs := [12]) (by kernel_rfl) (by simp) ?_
          refine AllReadyH.cons rfl (fun K9 hK9 => ?_) AllReadyH.nil
          go_simp
          go_wp2_with (go_at_call 10; refine (CU.out _ hHeld).mono ?_; rintro e w3 ⟨au, cu, rfl, htu, hkw3⟩)
          refine hK9.out _ _ ?_ (fun hHeld2 => ?_)
          · exact hHeld.trans hkw3
          clear hK9 K9 hHeld
          have hHeld := hHeld2
          clear hHeld2
          go_simp
          refine wpAnyH_take (i := 13) (v := (.tuple #[.slice au m cu, .string us, .int .i64 z])) rfl (by kernel_rfl) (by kernel_rfl) (by kernel_rfl) (fun _ _ _ h => h) (Or.inl ⟨by rfl, ?hhua13⟩) (by assumption) ?rrua13
          case hhua13 => (intro wz9 hSw; (try dsimp only at hSw); go_simp; try with_reducible rfl)
          go_simp
          refine wpAnyH_take (i := 14) (v := (.slice au m cu)) rfl (by kernel_rfl) (by kernel_rfl) (by kernel_rfl) (fun _ _ _ h => h) (Or.inl ⟨by rfl, ?hhua14⟩) (by assumption) ?rrua14
          case hhua14 => (intro wz9 hSw; (try dsimp only at hSw); go_simp; try with_reducible rfl)
          go_simp
          refine wpAnyH_take (i := 15) (v := (.string us)) rfl (by kernel_rfl) (by kernel_rfl) (by kernel_rfl) (fun _ _ _ h => h) (Or.inl ⟨by rfl, ?hhua15⟩) (by assumption) ?rrua15
          case hhua15 => (intro wz9 hSw; (try dsimp only at hSw); go_simp; try with_reducible rfl)
          go_simp
          refine wpAnyH_take (i := 16) (v := (.int .i64 z)) rfl (by kernel_rfl) (by kernel_rfl) (by kernel_rfl) (fun _ _ _ h => h) (Or.inl ⟨by rfl, ?hhua16⟩) (by assumption) ?rrua16
          case hhua16 => (intro wz9 hSw; (try dsimp only at hSw); go_simp; try with_reducible rfl)
          go_simp
          refine wpAnyH_take (i := 17) (v := (.slice au m cu)) rfl (by kernel_rfl) (by kernel_rfl) (by kernel_rfl) (fun _ _ _ h => h) (Or.inl ⟨by rfl, ?hhua17⟩) (by assumption) ?rrua17
          case hhua17 => (intro wz9 hSw; (try dsimp only at hSw); go_simp; try with_reducible rfl)
          go_simp
          refine wpAnyH_take (i := 18) (v := (.string us)) rfl (by kernel_rfl) (by kernel_rfl) (by kernel_rfl) (fun _ _ _ h => h) (Or.inl ⟨by rfl, ?hhua18⟩) (by assumption) ?rrua18
          case hhua18 => (intro wz9 hSw; (try dsimp only at hSw); go_simp; try with_reducible rfl)
          go_simp
          refine wpAnyH_take (i := 19) (v := (.int .i64 z)) rfl (by kernel_rfl) (by kernel_rfl) (by kernel_rfl) (fun _ _ _ h => h) (Or.inl ⟨by rfl, ?hhua19⟩) (by assumption) ?rrua19
          case hhua19 => (intro wz9 hSw; (try dsimp only at hSw); go_simp; try with_reducible rfl)
          go_simp
          refine wpAnyH_done (by kernel_rfl) ?_ _
          have hkA := hHeld
          clear hHeld
          go_wp2_with fail
          have htu0 := htu
          refine wp_region_held_drew (S := (fun wx => Kept No wr wx)) (by kernel_rfl) ?_ (fun hHeld => ?_)
          · exact hkA.drew
          refine wpAnyH_take (i := 0) (v := (.slice a9 n c9)) rfl (by kernel_rfl) (by kernel_rfl) (by kernel_rfl) (fun _ _ _ h => h) (Or.inl ⟨by rfl, ?hhub0⟩) (by assumption) ?rrub0
          case hhub0 => (intro wz9 hSw; (try dsimp only at hSw); go_simp; try with_reducible rfl)
          go_simp
          refine wpAnyH_take (i := 1) (v := (.int .u16 (most : Int))) rfl (by kernel_rfl) (by kernel_rfl) (by kernel_rfl) (fun _ _ _ h => h) (Or.inl ⟨by rfl, ?hhub1⟩) (by assumption) ?rrub1
          case hhub1 => (intro wz9 hSw; (try dsimp only at hSw); go_simp; try with_reducible rfl)
          go_simp
          refine wpAnyH_take (i := 2) (v := (.slice (some ⟨b, off, none⟩) OL.length cap)) rfl (by kernel_rfl) (by kernel_rfl) (by kernel_rfl) (fun _ _ _ h => h) (Or.inl ⟨by rfl, ?hhub2⟩) (by assumption) ?rrub2
          case hhub2 => (intro wz9 hSw; (try dsimp only at hSw); go_simp; try with_reducible rfl)
          go_simp
          refine wpAnyH_take (i := 3) (v := (.int .i64 (j : Int))) rfl (by kernel_rfl) (by kernel_rfl) (by kernel_rfl) (fun _ _ _ h => h) (Or.inl ⟨by rfl, ?hhub3⟩) (by assumption) ?rrub3
          case hhub3 => (intro wz9 hSw; (try dsimp only at hSw); go_simp; try with_reducible rfl)
          go_simp
          refine wpAnyH_take (i := 4) (v := (.pointer (some ⟨b, off + j * 2, none⟩))) rfl (by kernel_rfl) (by kernel_rfl) (by kernel_rfl) (fun _ _ _ h => h) (Or.inl ⟨by rfl, ?hhub4⟩) (by assumption) ?rrub4
          case hhub4 => (intro wz9 hSw; (try dsimp only at hSw); go_simp; try with_reducible rfl)
          go_simp
          refine wpAnyH_take (i := 5) (v := (.pointer (some ⟨b, off + j * 2, none⟩))) rfl (by kernel_rfl) (by kernel_rfl) (by kernel_rfl) (fun _ _ _ h => h) (Or.inl ⟨by rfl, ?hhub5⟩) (by assumption) ?rrub5
          case hhub5 => (intro wz9 hSw; (try dsimp only at hSw); go_simp; try with_reducible rfl)
          go_simp
          refine wpAnyH_take (i := 6) (v := (.int .u16 (oi : Int))) rfl (by kernel_rfl) (by kernel_rfl) (by kernel_rfl) (fun _ _ _ h => h) (Or.inl ⟨by rfl, ?hhub6⟩) (by assumption) ?rrub6
          case hhub6 => (intro wz9 hSw; have z0 := (hSw.cell (p := ⟨b, off + j * 2, none⟩) HB.out (fun f => f)).trans HQ.out.1; clear hSw; go_simp; try with_reducible rfl)
          go_simp
          refine wpAnyH_take (i := 7) (v := (.slice (some ⟨b, off, none⟩) OL.length cap)) rfl (by kernel_rfl) (by kernel_rfl) (by kernel_rfl) (fun _ _ _ h => h) (Or.inl ⟨by rfl, ?hhub7⟩) (by assumption) ?rrub7
          case hhub7 => (intro wz9 hSw; (try dsimp only at hSw); go_simp; try with_reducible rfl)
          go_simp
          refine wpAnyH_take (i := 8) (v := (.int .i64 (j : Int))) rfl (by kernel_rfl) (by kernel_rfl) (by kernel_rfl) (fun _ _ _ h => h) (Or.inl ⟨by rfl, ?hhub8⟩) (by assumption) ?rrub8
          case hhub8 => (intro wz9 hSw; (try dsimp only at hSw); go_simp; try with_reducible rfl)
          go_simp
          refine wpAnyH_take (i := 9) (v := (.pointer (some ⟨b, off + j * 2, none⟩))) rfl (by kernel_rfl) (by kernel_rfl) (by kernel_rfl) (fun _ _ _ h => h) (Or.inl ⟨by rfl, ?hhub9⟩) (by assumption) ?rrub9
          case hhub9 => (intro wz9 hSw; (try dsimp only at hSw); go_simp; try with_reducible rfl)
          go_simp
          refine wpAnyH_take (i := 10) (v := (.pointer (some ⟨b, off + j * 2 + 1, none⟩))) rfl (by kernel_rfl) (by kernel_rfl) (by kernel_rfl) (fun _ _ _ h => h) (Or.inl ⟨by rfl, ?hhub10⟩) (by assumption) ?rrub10
          case hhub10 => (intro wz9 hSw; (try dsimp only at hSw); go_simp; try with_reducible rfl)
          go_simp
          refine wpAnyH_take (i := 11) (v := (.string os)) rfl (by kernel_rfl) (by kernel_rfl) (by kernel_rfl) (fun _ _ _ h => h) (Or.inl ⟨by rfl, ?hhub11⟩) (by assumption) ?rrub11
          case hhub11 => (intro wz9 hSw; have z0 := (hSw.cell (p := ⟨b, off + j * 2 + 1, none⟩) HB.out (fun f => f)).trans HQ.out.2; clear hSw; go_simp; try with_reducible rfl)
          go_simp
          refine wpAnyH_ready (rs := [12]) (by kernel_rfl) (by simp) ?_
          refine AllReadyH.cons rfl (fun K9 hK9 => ?_) AllReadyH.nil
          go_simp
          go_wp2_with (go_at_call 11; refine (CR.out _ hHeld).mono ?_; rintro e w4 ⟨ax, cx, rfl, htx, hkw4⟩)
          refine hK9.out _ _ ?_ (fun hHeld2 => ?_)
          · exact hHeld.trans hkw4
          clear hK9 K9 hHeld
          have hHeld := hHeld2
          clear hHeld2
          go_simp
          refine wpAnyH_take (i := 13) (v := (.tuple #[.slice ax m cx, .string us, .int .i64 z])) rfl (by kernel_rfl) (by kernel_rfl) (by kernel_rfl) (fun _ _ _ h => h) (Or.inl ⟨by rfl, ?hhub13⟩) (by assumption) ?rrub13
          case hhub13 => (intro wz9 hSw; (try dsimp only at hSw); go_simp; try with_reducible rfl)
          go_simp
          refine wpAnyH_take (i := 14) (v := (.slice ax m cx)) rfl (by kernel_rfl) (by kernel_rfl) (by kernel_rfl) (fun _ _ _ h => h) (Or.inl ⟨by rfl, ?hhub14⟩) (by assumption) ?rrub14
          case hhub14 => (intro wz9 hSw; (try dsimp only at hSw); go_simp; try with_reducible rfl)
          go_simp
          refine wpAnyH_take (i := 15) (v := (.string us)) rfl (by kernel_rfl) (by kernel_rfl) (by kernel_rfl) (fun _ _ _ h => h) (Or.inl ⟨by rfl, ?hhub15⟩) (by assumption) ?rrub15
          case hhub15 => (intro wz9 hSw; (try dsimp only at hSw); go_simp; try with_reducible rfl)
          go_simp
          refine wpAnyH_take (i := 16) (v := (.int .i64 z)) rfl (by kernel_rfl) (by kernel_rfl) (by kernel_rfl) (fun _ _ _ h => h) (Or.inl ⟨by rfl, ?hhub16⟩) (by assumption) ?rrub16
          case hhub16 => (intro wz9 hSw; (try dsimp only at hSw); go_simp; try with_reducible rfl)
          go_simp
          refine wpAnyH_take (i := 17) (v := (.slice ax m cx)) rfl (by kernel_rfl) (by kernel_rfl) (by kernel_rfl) (fun _ _ _ h => h) (Or.inl ⟨by rfl, ?hhub17⟩) (by assumption) ?rrub17
          case hhub17 => (intro wz9 hSw; (try dsimp only at hSw); go_simp; try with_reducible rfl)
          go_simp
          refine wpAnyH_take (i := 18) (v := (.string us)) rfl (by kernel_rfl) (by kernel_rfl) (by kernel_rfl) (fun _ _ _ h => h) (Or.inl ⟨by rfl, ?hhub18⟩) (by assumption) ?rrub18
          case hhub18 => (intro wz9 hSw; (try dsimp only at hSw); go_simp; try with_reducible rfl)
          go_simp
          refine wpAnyH_take (i := 19) (v := (.int .i64 z)) rfl (by kernel_rfl) (by kernel_rfl) (by kernel_rfl) (fun _ _ _ h => h) (Or.inl ⟨by rfl, ?hhub19⟩) (by assumption) ?rrub19
          case hhub19 => (intro wz9 hSw; (try dsimp only at hSw); go_simp; try with_reducible rfl)
          go_simp
          refine wpAnyH_done (by kernel_rfl) ?_ _
          have hkB := hHeld
          clear hHeld
          have hk34 : Kept No w3 w4 := ((Kept.refl No w3).drew).trans hkw4
          have hk23 : Kept No w2 w3 := ((Kept.refl No w2).drew).trans hkw3
          clear q0 q1
          go_wp2_with fail
          go_at_call 9
          refine (from_num au cu M m _ (htu.keptNo hk34).row HMl.out HI.out.len).mono ?_
          rintro e w5 ⟨af, cf, rfl, hrf, hk5⟩
          go_wp2_with fail
          go_at_call 12
          refine (same_num af ax cf cx M m _ hrf (htx.keptNo hk5).row HMl.out HI.out.len).mono ?_
          rintro e w6 ⟨rfl, hk6⟩
          have hkE := (hkB.trans hk5).trans hk6
          go_wp2_with fail
          go_at_call 9
          refine (CF.out _ hkE).mono ?_
          rintro e w7 ⟨ag, cg, rfl, hrg, hk7⟩
          have hk27 := (((hk23.trans hk34).trans hk5).trans hk6).trans hk7
          go_wp2_with fail
          go_at_call 12
          refine (same_num ag ah cg ch L n _ hrg (hrh.keptNo hk27) HLl.out HL.out.1.len).mono ?_
          rintro e w8 ⟨rfl, hk8⟩
          have hkF := (hkE.trans hk7).trans hk8
          have hk38 := (((hk34.trans hk5).trans hk6).trans hk7).trans hk8
          go_wp2_with fail
          go_at_call 6
          refine (right_num au cu M m _ (htu.keptNo hk38).row HMl.out HI.out.len HI.out.right HI.out.small (hT.kept (hk.trans hkF))).mono ?_
          rintro e w9 ⟨rfl, hk9⟩
          have hkG := hkF.trans hk9
          have hk39 := hk38.trans hk9
          have hk49 := (((hk5.trans hk6).trans hk7).trans hk8).trans hk9
          have z9 := (hkG.cell (p := ⟨b, off + j * 2, none⟩) HB.out (fun f => f)).trans HQ.out.1
          go_wp2_with fail
          go_at_call 13
          refine (get_num au cu M m oi _ (htu.keptNo hk39).row HI.out.right HMl.out HI.out.len gs gb HG.out).mono ?_
          rintro e wA ⟨rfl, hkAA⟩
          clear z9
          have hkH := hkG.trans hkAA
          have zA := (hkH.cell (p := ⟨b, off + j * 2, none⟩) HB.out (fun f => f)).trans HQ.out.1
          go_wp2_with fail
          go_at_call 14
          refine (rget_num ax cx M m oi _ ((htx.keptNo hk49).keptNo hkAA).row HMl.out HI.out.len gs gb HG.out).mono ?_
          rintro e wB ⟨rfl, hkBB⟩
          have hkU := (hk39.trans hkAA).trans hkBB
          have hkV := (hk49.trans hkAA).trans hkBB
          have hkZ := hkH.trans hkBB
          have hgb : (gb != gb) = false := by simp
          go_wp2
          go_roundw
          case rel => exact ⟨j + 1, m, cu, cx, au, ax, M, by go_num, rfl, rfl, by omega, by omega, by omega, Lib.hid ⟨HI.out, htu.keptNo hkU, htx.keptNo hkV⟩, hk.trans hkZ⟩
          case measure => simp [intOf]; omega
        · have h2I : (200 : Int) < (os.size : Int) := by omega
          go_wp2
          go_ret
          exact ⟨rfl, HFIN.out _ hk⟩
      · have hjI : ¬ (j : Int) < 60 := by omega
        have hnI : (n : Int) ≤ (most : Int) := by have := HLE.out; omega
        go_wp2
        go_ret
        exact ⟨by simp [hnI], HFIN.out _ hk⟩
    · have hnI : (n : Int) ≤ (most : Int) := by have := HLE.out; omega
      go_wp2
      go_ret
      exact ⟨by simp [hnI], HFIN.out _ hk⟩

theorem aliasUses_walk (most : Int) (a : Option Addr) (len cap : Nat) (OL : List Opx) (w : World) (h1 : (Lit.int .u16 most).wf = true) (h : IsOps w a len cap OL) (hT : Tabs w) :
    Calls Tryd.prog 4 #[.int .u16 most, .slice a len cap] w fun e w' => e = .returned (.bool true) ∧ Below w.heap.size w w' := by
  have b1 := bounds_u16 h1
  obtain ⟨d, rfl⟩ := Int.eq_ofNat_of_zero_le b1.1
  obtain ⟨hlen, hrow, hle, hcap, hwf⟩ := h
  unfold maxLen at hcap hwf
  subst hlen
  exact aliasUses_at d a cap OL w (by omega) hrow hle hcap hwf hT

end Go.Proofs.YtlgbljohhnhhkaaDoor
