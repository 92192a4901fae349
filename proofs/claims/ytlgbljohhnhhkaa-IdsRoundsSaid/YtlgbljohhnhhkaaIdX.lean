/-
  IdsRounds walked: made by mkidw.py.
-/
import Derived.Test.YtlgbljohhnhhkaaIdW
import Derived.Deep.RegionHeld3
import Derived.Deep.CutBlock
import Derived.Deep.CutRange
import Derived.Deep.DeepCutAuto
namespace Go.Proofs.Ytlgbljohhnhhkaa
open Go.RowKit
set_option linter.unusedVariables false
set_option linter.unusedSimpArgs false
set_option maxRecDepth 100000

/-- Where the first loop is. -/
structure St1 (w wr : World) (n c : Nat) (a1 : Option Addr) (v8 : Value) (L : List Rw) (NL : List Nat) : Prop where
  inv : RInv L NL
  len : L.length = n
  tab : Tb wr a1 c L
  own : wr.ownsRow w.heap.size 30 1 v8 n (NC NL)
theorem St1.kept {w wr wx : World} {n c : Nat} {a1 : Option Addr} {v8 : Value} {L : List Rw} {NL : List Nat} (h : St1 w wr n c a1 v8 L NL) (hk : Kept No wr wx) : St1 w wx n c a1 v8 L NL := ⟨h.inv, h.len, h.tab.keptNo hk, own_keptNo h.own hk⟩
/-- Where the second loop is. -/
structure St2 (wr : World) (n c c8 : Nat) (a1 a8 : Option Addr) (L : List Rw) (NL : List Nat) : Prop where
  inv : RInv L NL
  len : L.length = n
  tab : Tb wr a1 c L
  now : Row wr a8 (NC NL)
  nil : a8 = none → n = 0 ∧ c8 = 0
  cap : n ≤ c8
theorem St2.kept {wr wx : World} {n c c8 : Nat} {a1 a8 : Option Addr} {L : List Rw} {NL : List Nat} (h : St2 wr n c c8 a1 a8 L NL) (hk : Kept No wr wx) : St2 wx n c c8 a1 a8 L NL := ⟨h.inv, h.len, h.tab.keptNo hk, h.now.keptNo hk, h.nil, h.cap⟩
set_option maxHeartbeats 8000000 in
theorem idsRounds_at (a0 : Option Addr) (c0 : Nat) (IL : List Nat) (a2 : Option Addr) (c2 : Nat) (OL : List Int) (a3 : Option Addr) (c3 : Nat) (FL : List Bool) (w : World) (hr0 : Row w a0 (NC IL)) (hr2 : Row w a2 (ints .i64 OL)) (hr3 : Row w a3 (BLs FL)) (hl0 : IL.length ≤ 9223372036854775807) (hl2 : OL.length ≤ 9223372036854775807) (hl3 : FL.length ≤ 9223372036854775807) :
    Calls Try.prog 5 #[.slice a0 IL.length c0, .slice a2 OL.length c2, .slice a3 FL.length c3] w fun e w' => e = .returned (.bool true) ∧ Below w.heap.size w w' := by
  obtain ⟨i0, hi, hz0, hz1, hz2⟩ := info_parts' info_u16
  have HFIN := Lib.hid (fun wx (hk : Kept No w wx) => hk.below (Nat.le_refl _) (fun _ _ f => f))
  have HT := Lib.hid (fun wx => told11_any wx)
  have HR2 := Lib.hid (And.intro hr2 hr3)
  clear hr2 hr3
  go_enter Try.func5, Try.ntmps5
  go_upto_block 0 with fail
  go_cut [7, 8] (fun t v wx => ∃ (n c c8 : Nat) (a1 a8 : Option Addr) (L : List Rw) (NL : List Nat), t = .slice a1 n c ∧ v = .slice a8 n c8 ∧ n ≤ 12 ∧ Hid (St2 wx n c c8 a1 a8 L NL) ∧ Kept No w wx)
  case first =>
    go_wp2_with fail
    go_loopw [7, 8, 9] (fun t v8 i wr => ∃ (j n c : Nat) (a1 : Option Addr) (L : List Rw) (NL : List Nat), i = .int .i64 j ∧ t = .slice a1 n c ∧ n ≤ j ∧ j ≤ 12 ∧ j ≤ IL.length ∧ Hid (St1 w wr n c a1 v8 L NL) ∧ Kept No w wr) (fun _ _ i _ => IL.length - (intOf i).toNat)
    case atStart => exact ⟨0, 0, 0, none, [], [], rfl, rfl, by omega, by omega, by omega, Lib.hid ⟨rinv_nil, rfl, tb_nil _, World.ownsRow_nil _ _ _ _⟩, Kept.refl _ _⟩
    case round =>
      obtain ⟨j, n, c, a1, L, NL, rfl, rfl, hn, hj, hjl, HS, hk⟩ := hrel
      by_cases hgo : j < IL.length ∧ j < 12
      · obtain ⟨hlt, hj12⟩ := hgo
        have hjI : (j : Int) < 12 := by omega
        obtain ⟨b, off, rfl, hb, q0⟩ := hr0.num hlt
        generalize IL[j] = id at *
        have HQ := Lib.hid q0
        have HB := Lib.hid hb
        have qz := (hk.cell (p := ⟨b, off + j, none⟩) hb (fun f => f)).trans q0
        have hbr := Nat.lt_of_lt_of_le hb hk.size
        clear q0
        have HLl : Hid (L.length ≤ 1000) := Lib.hid (by have := HS.out.len; omega)
        have CF := Lib.hid (fun wx (hk : Kept No wr wx) => from_num a1 c L n wx (HS.out.tab.row.keptNo hk) HLl.out HS.out.len)
        have cP := fun M z m hM hm => open_num a1 c L n id wr HS.out.tab HS.out.inv.right HLl.out HS.out.len M z m hM hm
        rcases open2_cases L id with ⟨h0, hM⟩ | ⟨h0, r9, ho, hM⟩ | ⟨h0, ho, hM⟩
        · have CP := Lib.hid (cP _ _ n hM HS.out.len)
          have h0I : ((id : Int) != 0) = false := by simp; omega
          clear cP hM h0
          go_wp2_with (go_at_call 12; refine CP.out.mono ?_; rintro e w3 ⟨au, cu, rfl, htu, hbu, hk3⟩)
          refine wp_region_held_drew (S := (fun wx => Kept No wr wx)) (by kernel_rfl) ?_ (fun hHeld => ?_)
          · exact hk3.drew
          refine wpAnyH_take (i := 0) (v := (.int .i64 1)) rfl (by kernel_rfl) (by kernel_rfl) (by kernel_rfl) (fun _ _ _ h => h) (Or.inl ⟨by rfl, ?hhra0⟩) (by assumption) ?rrra0
          case hhra0 => (intro wz9 hSw; (try dsimp only at hSw); go_simp; try with_reducible rfl)
          go_simp
          refine wpAnyH_take (i := 1) (v := (.bool false)) rfl (by kernel_rfl) (by kernel_rfl) (by kernel_rfl) (fun _ _ _ h => h) (Or.inl ⟨by rfl, ?hhra1⟩) (by assumption) ?rrra1
          case hhra1 => (intro wz9 hSw; (try dsimp only at hSw); go_simp; try with_reducible rfl)
          go_simp
          refine wpAnyH_take (i := 2) (v := (.slice (some ⟨b, off, none⟩) IL.length c0)) rfl (by kernel_rfl) (by kernel_rfl) (by kernel_rfl) (fun _ _ _ h => h) (Or.inl ⟨by rfl, ?hhra2⟩) (by assumption) ?rrra2
          case hhra2 => (intro wz9 hSw; (try dsimp only at hSw); go_simp; try with_reducible rfl)
          go_simp
          refine wpAnyH_take (i := 3) (v := (.int .i64 (j : Int))) rfl (by kernel_rfl) (by kernel_rfl) (by kernel_rfl) (fun _ _ _ h => h) (Or.inl ⟨by rfl, ?hhra3⟩) (by assumption) ?rrra3
          case hhra3 => (intro wz9 hSw; (try dsimp only at hSw); go_simp; try with_reducible rfl)
          go_simp
          refine wpAnyH_take (i := 4) (v := (.pointer (some ⟨b, off + j, none⟩))) rfl (by kernel_rfl) (by kernel_rfl) (by kernel_rfl) (fun _ _ _ h => h) (Or.inl ⟨by rfl, ?hhra4⟩) (by assumption) ?rrra4
          case hhra4 => (intro wz9 hSw; (try dsimp only at hSw); go_simp; try with_reducible rfl)
          go_simp
          refine wpAnyH_take (i := 5) (v := (.int .u16 (id : Int))) rfl (by kernel_rfl) (by kernel_rfl) (by kernel_rfl) (fun _ _ _ h => h) (Or.inl ⟨by rfl, ?hhra5⟩) (by assumption) ?rrra5
          case hhra5 => (intro wz9 hSw; have z0 := ((hk.trans hSw).cell (p := ⟨b, off + j, none⟩) HB.out (fun f => f)).trans HQ.out; clear hSw; go_simp; try with_reducible rfl)
          go_simp
          refine wpAnyH_take (i := 6) (v := (.bool false)) rfl (by kernel_rfl) (by kernel_rfl) (by kernel_rfl) (fun _ _ _ h => h) (Or.inl ⟨by rfl, ?hhra6⟩) (by assumption) ?rrra6
          case hhra6 => (intro wz9 hSw; (try dsimp only at hSw); go_simp; try with_reducible rfl)
          go_simp
          refine wpAnyH_take (i := 7) (v := (.bool false)) rfl (by kernel_rfl) (by kernel_rfl) (by kernel_rfl) (fun _ _ _ h => h) (Or.inl ⟨by rfl, ?hhra7⟩) (by assumption) ?rrra7
          case hhra7 => (intro wz9 hSw; (try dsimp only at hSw); go_simp; try with_reducible rfl)
          go_simp
          refine wpAnyH_take (i := 8) (v := undef) rfl (by kernel_rfl) (by kernel_rfl) (by kernel_rfl) (fun _ _ _ h => h) (Or.inr ⟨by rfl, rfl⟩) (by assumption) ?_
          go_simp
          refine wpAnyH_take (i := 9) (v := undef) rfl (by kernel_rfl) (by kernel_rfl) (by kernel_rfl) (fun _ _ _ h => h) (Or.inr ⟨by rfl, rfl⟩) (by assumption) ?_
          go_simp
          refine wpAnyH_take (i := 10) (v := undef) rfl (by kernel_rfl) (by kernel_rfl) (by kernel_rfl) (fun _ _ _ h => h) (Or.inr ⟨by rfl, rfl⟩) (by assumption) ?_
          go_simp
          refine wpAnyH_take (i := 11) (v := undef) rfl (by kernel_rfl) (by kernel_rfl) (by kernel_rfl) (fun _ _ _ h => h) (Or.inr ⟨by rfl, rfl⟩) (by assumption) ?_
          go_simp
          refine wpAnyH_take (i := 12) (v := undef) rfl (by kernel_rfl) (by kernel_rfl) (by kernel_rfl) (fun _ _ _ h => h) (Or.inr ⟨by rfl, rfl⟩) (by assumption) ?_
          go_simp
          refine wpAnyH_take (i := 13) (v := undef) rfl (by kernel_rfl) (by kernel_rfl) (by kernel_rfl) (fun _ _ _ h => h) (Or.inr ⟨by rfl, rfl⟩) (by assumption) ?_
          go_simp
          refine wpAnyH_take (i := 14) (v := undef) rfl (by kernel_rfl) (by kernel_rfl) (by kernel_rfl) (fun _ _ _ h => h) (Or.inr ⟨by rfl, rfl⟩) (by assumption) ?_
          go_simp
          refine wpAnyH_take (i := 15) (v := undef) rfl (by kernel_rfl) (by kernel_rfl) (by kernel_rfl) (fun _ _ _ h => h) (Or.inr ⟨by rfl, rfl⟩) (by assumption) ?_
          go_simp
          refine wpAnyH_take (i := 16) (v := undef) rfl (by kernel_rfl) (by kernel_rfl) (by kernel_rfl) (fun _ _ _ h => h) (Or.inr ⟨by rfl, rfl⟩) (by assumption) ?_
          go_simp
          refine wpAnyH_take (i := 17) (v := (.bool false)) rfl (by kernel_rfl) (by kernel_rfl) (by kernel_rfl) (fun _ _ _ h => h) (Or.inl ⟨by rfl, ?hhra17⟩) (by assumption) ?rrra17
          case hhra17 => (intro wz9 hSw; (try dsimp only at hSw); go_simp; try with_reducible rfl)
          go_simp
          refine wpAnyH_take (i := 18) (v := (.bool false)) rfl (by kernel_rfl) (by kernel_rfl) (by kernel_rfl) (fun _ _ _ h => h) (Or.inl ⟨by rfl, ?hhra18⟩) (by assumption) ?rrra18
          case hhra18 => (intro wz9 hSw; (try dsimp only at hSw); go_simp; try with_reducible rfl)
          go_simp
          refine wpAnyH_done (by kernel_rfl) ?_ _
          go_wp2
          go_roundw
          case rel => exact ⟨j + 1, n, c, a1, L, NL, by go_num, rfl, by omega, by omega, by omega, Lib.hid (HS.out.kept hHeld), hk.trans hHeld⟩
          case measure => simp [intOf]; omega
        · have CP := Lib.hid (cP _ _ n hM HS.out.len)
          have h0I : ((id : Int) != 0) = true := by simp; omega
          have h0J : ((id : Int) == 0) = false := by simp; omega
          have hri := (ofL_id ho).1
          obtain ⟨id9, st9, n9⟩ := r9
          obtain rfl : id9 = id := hri
          have CO := Lib.hid (fun wx af cf (hr : Row wx af (RC L)) => of_num af cf L n id9 wx hr HLl.out HS.out.len ⟨id9, st9, n9⟩ (by rw [ho]; rfl))
          clear cP hM h0 ho
          go_wp2_with (go_at_call 12; refine CP.out.mono ?_; rintro e w3 ⟨au, cu, rfl, htu, hbu, hk3⟩)
          refine wp_region_held_drew (S := (fun wx => Kept No wr wx)) (by kernel_rfl) ?_ (fun hHeld => ?_)
          · exact hk3.drew
          refine wpAnyH_take (i := 0) (v := (.int .i64 7)) rfl (by kernel_rfl) (by kernel_rfl) (by kernel_rfl) (fun _ _ _ h => h) (Or.inl ⟨by rfl, ?hhrb0⟩) (by assumption) ?rrrb0
          case hhrb0 => (intro wz9 hSw; (try dsimp only at hSw); go_simp; try with_reducible rfl)
          go_simp
          refine wpAnyH_take (i := 1) (v := (.bool false)) rfl (by kernel_rfl) (by kernel_rfl) (by kernel_rfl) (fun _ _ _ h => h) (Or.inl ⟨by rfl, ?hhrb1⟩) (by assumption) ?rrrb1
          case hhrb1 => (intro wz9 hSw; (try dsimp only at hSw); go_simp; try with_reducible rfl)
          go_simp
          refine wpAnyH_take (i := 2) (v := (.slice (some ⟨b, off, none⟩) IL.length c0)) rfl (by kernel_rfl) (by kernel_rfl) (by kernel_rfl) (fun _ _ _ h => h) (Or.inl ⟨by rfl, ?hhrb2⟩) (by assumption) ?rrrb2
          case hhrb2 => (intro wz9 hSw; (try dsimp only at hSw); go_simp; try with_reducible rfl)
          go_simp
          refine wpAnyH_take (i := 3) (v := (.int .i64 (j : Int))) rfl (by kernel_rfl) (by kernel_rfl) (by kernel_rfl) (fun _ _ _ h => h) (Or.inl ⟨by rfl, ?hhrb3⟩) (by assumption) ?rrrb3
          case hhrb3 => (intro wz9 hSw; (try dsimp only at hSw); go_simp; try with_reducible rfl)
          go_simp
          refine wpAnyH_take (i := 4) (v := (.pointer (some ⟨b, off + j, none⟩))) rfl (by kernel_rfl) (by kernel_rfl) (by kernel_rfl) (fun _ _ _ h => h) (Or.inl ⟨by rfl, ?hhrb4⟩) (by assumption) ?rrrb4
          case hhrb4 => (intro wz9 hSw; (try dsimp only at hSw); go_simp; try with_reducible rfl)
          go_simp
          refine wpAnyH_take (i := 5) (v := (.int .u16 (id9 : Int))) rfl (by kernel_rfl) (by kernel_rfl) (by kernel_rfl) (fun _ _ _ h => h) (Or.inl ⟨by rfl, ?hhrb5⟩) (by assumption) ?rrrb5
          case hhrb5 => (intro wz9 hSw; have z0 := ((hk.trans hSw).cell (p := ⟨b, off + j, none⟩) HB.out (fun f => f)).trans HQ.out; clear hSw; go_simp; try with_reducible rfl)
          go_simp
          refine wpAnyH_take (i := 6) (v := (.bool true)) rfl (by kernel_rfl) (by kernel_rfl) (by kernel_rfl) (fun _ _ _ h => h) (Or.inl ⟨by rfl, ?hhrb6⟩) (by assumption) ?rrrb6
          case hhrb6 => (intro wz9 hSw; (try dsimp only at hSw); go_simp; try with_reducible rfl)
          go_simp
          refine wpAnyH_take (i := 7) (v := (.bool true)) rfl (by kernel_rfl) (by kernel_rfl) (by kernel_rfl) (fun _ _ _ h => h) (Or.inl ⟨by rfl, ?hhrb7⟩) (by assumption) ?rrrb7
          case hhrb7 => (intro wz9 hSw; (try dsimp only at hSw); go_simp; try with_reducible rfl)
          go_simp
          refine wpAnyH_take (i := 8) (v := (.slice a1 n c)) rfl (by kernel_rfl) (by kernel_rfl) (by kernel_rfl) (fun _ _ _ h => h) (Or.inl ⟨by rfl, ?hhrb8⟩) (by assumption) ?rrrb8
          case hhrb8 => (intro wz9 hSw; (try dsimp only at hSw); go_simp; try with_reducible rfl)
          go_simp
          refine wpAnyH_take (i := 10) (v := (.slice (some ⟨b, off, none⟩) IL.length c0)) rfl (by kernel_rfl) (by kernel_rfl) (by kernel_rfl) (fun _ _ _ h => h) (Or.inl ⟨by rfl, ?hhrb10⟩) (by assumption) ?rrrb10
          case hhrb10 => (intro wz9 hSw; (try dsimp only at hSw); go_simp; try with_reducible rfl)
          go_simp
          refine wpAnyH_take (i := 11) (v := (.int .i64 (j : Int))) rfl (by kernel_rfl) (by kernel_rfl) (by kernel_rfl) (fun _ _ _ h => h) (Or.inl ⟨by rfl, ?hhrb11⟩) (by assumption) ?rrrb11
          case hhrb11 => (intro wz9 hSw; (try dsimp only at hSw); go_simp; try with_reducible rfl)
          go_simp
          refine wpAnyH_take (i := 12) (v := (.pointer (some ⟨b, off + j, none⟩))) rfl (by kernel_rfl) (by kernel_rfl) (by kernel_rfl) (fun _ _ _ h => h) (Or.inl ⟨by rfl, ?hhrb12⟩) (by assumption) ?rrrb12
          case hhrb12 => (intro wz9 hSw; (try dsimp only at hSw); go_simp; try with_reducible rfl)
          go_simp
          refine wpAnyH_take (i := 13) (v := (.int .u16 (id9 : Int))) rfl (by kernel_rfl) (by kernel_rfl) (by kernel_rfl) (fun _ _ _ h => h) (Or.inl ⟨by rfl, ?hhrb13⟩) (by assumption) ?rrrb13
          case hhrb13 => (intro wz9 hSw; have z0 := ((hk.trans hSw).cell (p := ⟨b, off + j, none⟩) HB.out (fun f => f)).trans HQ.out; clear hSw; go_simp; try with_reducible rfl)
          go_simp
          refine wpAnyH_ready (rs := [9]) (by kernel_rfl) (by simp) ?_
          refine AllReadyH.cons rfl (fun K9 hK9 => ?_) AllReadyH.nil
          go_simp
          go_wp2_with (go_at_call 11; refine (CF.out _ hHeld).mono ?_; rintro e wq ⟨af, cf, rfl, hrf, hkq⟩)
          refine hK9.out _ _ ?_ (fun hHeld => ?_)
          · exact hHeld.trans hkq
          clear hK9 K9
          refine wpAnyH_ready (rs := [14]) (by kernel_rfl) (by simp) ?_
          refine AllReadyH.cons rfl (fun K9 hK9 => ?_) AllReadyH.nil
          go_simp
          go_wp2_with (go_at_call 19; refine (CO.out _ _ _ hrf).mono ?_; rintro e wp ⟨rfl, hkp⟩)
          refine hK9.out _ _ ?_ (fun hHeld => ?_)
          · exact hHeld.trans hkp
          clear hK9 K9
          refine wpAnyH_take (i := 15) (v := (.int .u16 (id9 : Int))) rfl (by kernel_rfl) (by kernel_rfl) (by kernel_rfl) (fun _ _ _ h => h) (Or.inl ⟨by rfl, ?hhrb15⟩) (by assumption) ?rrrb15
          case hhrb15 => (intro wz9 hSw; clear hSw; have hfd := fun wx => fld0 (id9 : Int) st9 n9 wx; go_simp; try with_reducible rfl)
          go_simp
          refine wpAnyH_take (i := 16) (v := (.bool false)) rfl (by kernel_rfl) (by kernel_rfl) (by kernel_rfl) (fun _ _ _ h => h) (Or.inl ⟨by rfl, ?hhrb16⟩) (by assumption) ?rrrb16
          case hhrb16 => (intro wz9 hSw; (try dsimp only at hSw); go_simp; try with_reducible rfl)
          go_simp
          refine wpAnyH_take (i := 17) (v := (.bool false)) rfl (by kernel_rfl) (by kernel_rfl) (by kernel_rfl) (fun _ _ _ h => h) (Or.inl ⟨by rfl, ?hhrb17⟩) (by assumption) ?rrrb17
          case hhrb17 => (intro wz9 hSw; (try dsimp only at hSw); go_simp; try with_reducible rfl)
          go_simp
          refine wpAnyH_take (i := 18) (v := (.bool false)) rfl (by kernel_rfl) (by kernel_rfl) (by kernel_rfl) (fun _ _ _ h => h) (Or.inl ⟨by rfl, ?hhrb18⟩) (by assumption) ?rrrb18
          case hhrb18 => (intro wz9 hSw; (try dsimp only at hSw); go_simp; try with_reducible rfl)
          go_simp
          refine wpAnyH_done (by kernel_rfl) ?_ _
          go_wp2
          go_roundw
          case rel => exact ⟨j + 1, n, c, a1, L, NL, by go_num, rfl, by omega, by omega, by omega, Lib.hid (HS.out.kept hHeld), hk.trans hHeld⟩
          case measure => simp [intOf]; omega
        · have hadd := HS.out.inv.add h0 ho
          have hml : (putR L id (some ⟨id, 2, 0⟩)).length = n + 1 := by
            have h1 := hadd.len
            have h2 := HS.out.inv.len
            have h3 := HS.out.len
            rw [List.length_append] at h1
            simp at h1
            omega
          have CP := Lib.hid (cP _ _ (n + 1) hM hml)
          have HADD := Lib.hid hadd
          have HML := Lib.hid hml
          have h0I : ((id : Int) != 0) = true := by simp; omega
          have CO := Lib.hid (fun wx af cf (hr : Row wx af (RC L)) => of_num af cf L n id wx hr HLl.out HS.out.len ⟨0, 0, 0⟩ (by rw [ho]; rfl))
          generalize putR L id (some ⟨id, 2, 0⟩) = M at *
          clear cP hM ho hadd hml
          go_wp2_with (go_at_call 12; refine CP.out.mono ?_; rintro e w3 ⟨au, cu, rfl, htu, hbu, hk3⟩)
          refine wp_region_held_drew (S := (fun wx => Kept No wr wx)) (by kernel_rfl) ?_ (fun hHeld => ?_)
          · exact hk3.drew
          refine wpAnyH_take (i := 0) (v := (.int .i64 0)) rfl (by kernel_rfl) (by kernel_rfl) (by kernel_rfl) (fun _ _ _ h => h) (Or.inl ⟨by rfl, ?hhrc0⟩) (by assumption) ?rrrc0
          case hhrc0 => (intro wz9 hSw; (try dsimp only at hSw); go_simp; try with_reducible rfl)
          go_simp
          refine wpAnyH_take (i := 1) (v := (.bool true)) rfl (by kernel_rfl) (by kernel_rfl) (by kernel_rfl) (fun _ _ _ h => h) (Or.inl ⟨by rfl, ?hhrc1⟩) (by assumption) ?rrrc1
          case hhrc1 => (intro wz9 hSw; (try dsimp only at hSw); go_simp; try with_reducible rfl)
          go_simp
          refine wpAnyH_take (i := 2) (v := (.slice (some ⟨b, off, none⟩) IL.length c0)) rfl (by kernel_rfl) (by kernel_rfl) (by kernel_rfl) (fun _ _ _ h => h) (Or.inl ⟨by rfl, ?hhrc2⟩) (by assumption) ?rrrc2
          case hhrc2 => (intro wz9 hSw; (try dsimp only at hSw); go_simp; try with_reducible rfl)
          go_simp
          refine wpAnyH_take (i := 3) (v := (.int .i64 (j : Int))) rfl (by kernel_rfl) (by kernel_rfl) (by kernel_rfl) (fun _ _ _ h => h) (Or.inl ⟨by rfl, ?hhrc3⟩) (by assumption) ?rrrc3
          case hhrc3 => (intro wz9 hSw; (try dsimp only at hSw); go_simp; try with_reducible rfl)
          go_simp
          refine wpAnyH_take (i := 4) (v := (.pointer (some ⟨b, off + j, none⟩))) rfl (by kernel_rfl) (by kernel_rfl) (by kernel_rfl) (fun _ _ _ h => h) (Or.inl ⟨by rfl, ?hhrc4⟩) (by assumption) ?rrrc4
          case hhrc4 => (intro wz9 hSw; (try dsimp only at hSw); go_simp; try with_reducible rfl)
          go_simp
          refine wpAnyH_take (i := 5) (v := (.int .u16 (id : Int))) rfl (by kernel_rfl) (by kernel_rfl) (by kernel_rfl) (fun _ _ _ h => h) (Or.inl ⟨by rfl, ?hhrc5⟩) (by assumption) ?rrrc5
          case hhrc5 => (intro wz9 hSw; have z0 := ((hk.trans hSw).cell (p := ⟨b, off + j, none⟩) HB.out (fun f => f)).trans HQ.out; clear hSw; go_simp; try with_reducible rfl)
          go_simp
          refine wpAnyH_take (i := 6) (v := (.bool true)) rfl (by kernel_rfl) (by kernel_rfl) (by kernel_rfl) (fun _ _ _ h => h) (Or.inl ⟨by rfl, ?hhrc6⟩) (by assumption) ?rrrc6
          case hhrc6 => (intro wz9 hSw; (try dsimp only at hSw); go_simp; try with_reducible rfl)
          go_simp
          refine wpAnyH_take (i := 7) (v := (.bool true)) rfl (by kernel_rfl) (by kernel_rfl) (by kernel_rfl) (fun _ _ _ h => h) (Or.inl ⟨by rfl, ?hhrc7⟩) (by assumption) ?rrrc7
          case hhrc7 => (intro wz9 hSw; (try dsimp only at hSw); go_simp; try with_reducible rfl)
          go_simp
          refine wpAnyH_take (i := 8) (v := (.slice a1 n c)) rfl (by kernel_rfl) (by kernel_rfl) (by kernel_rfl) (fun _ _ _ h => h) (Or.inl ⟨by rfl, ?hhrc8⟩) (by assumption) ?rrrc8
          case hhrc8 => (intro wz9 hSw; (try dsimp only at hSw); go_simp; try with_reducible rfl)
          go_simp
          refine wpAnyH_take (i := 10) (v := (.slice (some ⟨b, off, none⟩) IL.length c0)) rfl (by kernel_rfl) (by kernel_rfl) (by kernel_rfl) (fun _ _ _ h => h) (Or.inl ⟨by rfl, ?hhrc10⟩) (by assumption) ?rrrc10
          case hhrc10 => (intro wz9 hSw; (try dsimp only at hSw); go_simp; try with_reducible rfl)
          go_simp
          refine wpAnyH_take (i := 11) (v := (.int .i64 (j : Int))) rfl (by kernel_rfl) (by kernel_rfl) (by kernel_rfl) (fun _ _ _ h => h) (Or.inl ⟨by rfl, ?hhrc11⟩) (by assumption) ?rrrc11
          case hhrc11 => (intro wz9 hSw; (try dsimp only at hSw); go_simp; try with_reducible rfl)
          go_simp
          refine wpAnyH_take (i := 12) (v := (.pointer (some ⟨b, off + j, none⟩))) rfl (by kernel_rfl) (by kernel_rfl) (by kernel_rfl) (fun _ _ _ h => h) (Or.inl ⟨by rfl, ?hhrc12⟩) (by assumption) ?rrrc12
          case hhrc12 => (intro wz9 hSw; (try dsimp only at hSw); go_simp; try with_reducible rfl)
          go_simp
          refine wpAnyH_take (i := 13) (v := (.int .u16 (id : Int))) rfl (by kernel_rfl) (by kernel_rfl) (by kernel_rfl) (fun _ _ _ h => h) (Or.inl ⟨by rfl, ?hhrc13⟩) (by assumption) ?rrrc13
          case hhrc13 => (intro wz9 hSw; have z0 := ((hk.trans hSw).cell (p := ⟨b, off + j, none⟩) HB.out (fun f => f)).trans HQ.out; clear hSw; go_simp; try with_reducible rfl)
          go_simp
          refine wpAnyH_ready (rs := [9]) (by kernel_rfl) (by simp) ?_
          refine AllReadyH.cons rfl (fun K9 hK9 => ?_) AllReadyH.nil
          go_simp
          go_wp2_with (go_at_call 11; refine (CF.out _ hHeld).mono ?_; rintro e wq ⟨af, cf, rfl, hrf, hkq⟩)
          refine hK9.out _ _ ?_ (fun hHeld => ?_)
          · exact hHeld.trans hkq
          clear hK9 K9
          refine wpAnyH_ready (rs := [14]) (by kernel_rfl) (by simp) ?_
          refine AllReadyH.cons rfl (fun K9 hK9 => ?_) AllReadyH.nil
          go_simp
          go_wp2_with (go_at_call 19; refine (CO.out _ _ _ hrf).mono ?_; rintro e wp ⟨rfl, hkp⟩)
          refine hK9.out _ _ ?_ (fun hHeld => ?_)
          · exact hHeld.trans hkp
          clear hK9 K9
          refine wpAnyH_take (i := 15) (v := (.int .u16 0)) rfl (by kernel_rfl) (by kernel_rfl) (by kernel_rfl) (fun _ _ _ h => h) (Or.inl ⟨by rfl, ?hhrc15⟩) (by assumption) ?rrrc15
          case hhrc15 => (intro wz9 hSw; clear hSw; have hfd := fun wx => fld0 0 0 0 wx; go_simp; try with_reducible rfl)
          go_simp
          refine wpAnyH_take (i := 16) (v := (.bool true)) rfl (by kernel_rfl) (by kernel_rfl) (by kernel_rfl) (fun _ _ _ h => h) (Or.inl ⟨by rfl, ?hhrc16⟩) (by assumption) ?rrrc16
          case hhrc16 => (intro wz9 hSw; (try dsimp only at hSw); go_simp; try with_reducible rfl)
          go_simp
          refine wpAnyH_take (i := 17) (v := (.bool true)) rfl (by kernel_rfl) (by kernel_rfl) (by kernel_rfl) (fun _ _ _ h => h) (Or.inl ⟨by rfl, ?hhrc17⟩) (by assumption) ?rrrc17
          case hhrc17 => (intro wz9 hSw; (try dsimp only at hSw); go_simp; try with_reducible rfl)
          go_simp
          refine wpAnyH_take (i := 18) (v := (.bool false)) rfl (by kernel_rfl) (by kernel_rfl) (by kernel_rfl) (fun _ _ _ h => h) (Or.inl ⟨by rfl, ?hhrc18⟩) (by assumption) ?rrrc18
          case hhrc18 => (intro wz9 hSw; (try dsimp only at hSw); go_simp; try with_reducible rfl)
          go_simp
          refine wpAnyH_done (by kernel_rfl) ?_ _
          have HK3 := Lib.hid ((((Kept.refl No w3).drew.trans hkq).trans hkp))
          have hSx := HS.out.kept hHeld
          have hown := hSx.own
          have hszw := Nat.le_trans hk.size hHeld.size
          have HSX := Lib.hid hSx
          have hqx := ((hk.trans hHeld).cell (p := ⟨b, off + j, none⟩) HB.out (fun f => f)).trans HQ.out
          have hbx := Nat.lt_of_lt_of_le HB.out (hk.trans hHeld).size
          clear hSx
          go_wp2_with (at_builtin; refine wpList_append_own _ rfl _ _ _ rfl w.heap.size 30 i0 _ 1 2 Try.underlying45 hi hz0 hz1 hz2 rfl (by decide) _ _ _ rfl (hown.alloc _) ⟨wp.heap.size, 0, none⟩ 1 1 (NC [id]) rfl rfl (new_at rfl) (NC_one _) (by unfold maxLen; omega) (by omega) (by simp; omega) ?_; intro v9 w9 hown9 hg9 _)
          have htb : Tb w9 au cu M := by
            have h1 := htu.keptNo (HK3.out.trans ((Kept.refl No wp).alloc (.cells #[.int .u16 id] 30)))
            refine ⟨h1.row.kept ((Kept.refl (fun k => u8.ownBlock = some k) _).grown hg9 (fun k hk => .inr hk)) (fun b8 off8 h8 _ hS8 => ?_), h1.nil, h1.cap⟩
            have h2 := (HS.out.own.lt b8 hS8).2
            have h3 := hbu b8 off8 h8
            omega
          go_roundw
          case rel => exact ⟨j + 1, n + 1, cu, au, M, NL ++ [id], by go_num, rfl, by omega, by omega, by omega, Lib.hid ⟨HADD.out, HML.out, htb, by rw [NC_append]; exact hown9⟩, ((hk.trans hHeld).alloc _).grown hg9 (own_no hown)⟩
          case measure => simp [intOf]; omega
      · obtain ⟨a8, c8, h8, hr8, hn8⟩ := own_form HS.out.own
        subst h8
        have HS2 : Hid (St2 wr n c c8 a1 a8 L NL) := Lib.hid ⟨HS.out.inv, HS.out.len, HS.out.tab, hr8, fun h => hn8 h, own_cap HS.out.own⟩
        have hn12 : n ≤ 12 := by omega
        rcases (show (j < IL.length ∧ ¬ (j : Int) < 12) ∨ ¬ j < IL.length from by omega) with ⟨hx9, hjI⟩ | hx9
        · go_wp2_with fail
          go_meet
          exact ⟨n, c, c8, a1, a8, L, NL, rfl, rfl, hn12, HS2, hk⟩
        · go_wp2_with fail
          go_meet
          exact ⟨n, c, c8, a1, a8, L, NL, rfl, rfl, hn12, HS2, hk⟩
  case rest =>
  obtain ⟨n, c, c8, a1, a8, L, NL, rfl, rfl, hn12, HS2, hk⟩ := hcut
  go_wp2
  go_loopw [7, 8, 12] (fun t v i wx => ∃ (j n c c8 : Nat) (a1 a8 : Option Addr) (L : List Rw) (NL : List Nat), i = .int .i64 j ∧ t = .slice a1 n c ∧ v = .slice a8 n c8 ∧ n ≤ 12 ∧ j ≤ 60 ∧ j ≤ OL.length ∧ Hid (St2 wx n c c8 a1 a8 L NL) ∧ Kept No w wx) (fun _ _ i _ => OL.length - (intOf i).toNat)
  case atStart => exact ⟨0, n, c, c8, a1, a8, L, NL, rfl, rfl, rfl, hn12, by omega, by omega, HS2, hk⟩
  case round =>
    clear HS2 hk
    obtain ⟨j, n, c, c8, a1, a8, L, NL, rfl, rfl, rfl, hn, hj, hjl, HS, hk⟩ := hrel
    by_cases hgo : j < OL.length ∧ j < 60 ∧ 0 < n
    · obtain ⟨hlt, hj60, hn0⟩ := hgo
      have hjI : (j : Int) < 60 := by omega
      have hnI : (0 : Int) < (n : Int) := by omega
      obtain ⟨b2, off2, rfl, hb2, q2⟩ := HR2.out.1.i64 hlt
      generalize OL[j] = ov at *
      obtain ⟨k, hkm, hkn⟩ := law_mod ov n (by omega) (by omega)
      have hNLn : NL.length = n := by have := HS.out.inv.len; have := HS.out.len; omega
      have hkNL : k < NL.length := by omega
      obtain ⟨b8, off8, rfl, hb8, q8⟩ := HS.out.now.num hkNL
      have hmem := List.getElem_mem hkNL
      have HSP : Hid (NL = NL.take k ++ NL[k] :: NL.drop (k + 1)) := Lib.hid (by rw [← List.drop_eq_getElem_cons hkNL, List.take_append_drop])
      generalize NL[k] = id at *
      obtain ⟨s, ho, hs2, hs4⟩ := HS.out.inv.get hmem
      have HO := Lib.hid ho
      have HLl : Hid (L.length ≤ 1000) := Lib.hid (by have := HS.out.len; omega)
      have HNL := Lib.hid hNLn
      have CF := Lib.hid (fun wx (hk : Kept No wr wx) => from_num a1 c L n wx (HS.out.tab.row.keptNo hk) HLl.out HS.out.len)
      have CO := Lib.hid (fun wx af cf (hr : Row wx af (RC L)) => of_num af cf L n id wx hr HLl.out HS.out.len ⟨id, s, 0⟩ (by rw [HO.out]; rfl))
      have HQ8 := Lib.hid q8
      have HB8 := Lib.hid hb8
      have qz := (hk.cell (p := ⟨b2, off2 + j, none⟩) hb2 (fun f => f)).trans q2
      have hbr := Nat.lt_of_lt_of_le hb2 hk.size
      have hwn : IntKind.u64.wrap (n : Int) = (n : Int) := by rw [IntKind.wrap_u64]; omega
      have hknI : (k : Int) < (n : Int) := by omega
      have hkl : k < n := by omega
      have hnz : ((n : Int) == 0) = false := by simp; omega
      have hn0J : ¬ (n : Int) = 0 := by omega
      clear q2 q8 ho hmem hkNL hNLn
      go_upto_region 16 with fail
      simp only [hkm]
      clear hkm hwn qz
      go_cut [14] from 69 to 168 (fun p wx => ∃ g, p = .pointer (some ⟨g, 0, none⟩) ∧ Blk wx g 49 #[.int .u16 id, .int .i64 s, .int .i64 0] ∧ Kept No wr wx)
      case first =>
        refine wp_region_held_drew (S := (fun wx => Kept No wr wx)) (by kernel_rfl) ?_ (fun hHeld => ?_)
        · exact (Kept.refl No wr).drew
        refine wpAnyH_take (i := 0) (v := (.slice a1 n c)) rfl (by kernel_rfl) (by kernel_rfl) (by kernel_rfl) (fun _ _ _ h => h) (Or.inl ⟨by rfl, ?hhrg0⟩) (by assumption) ?rrrg0
        case hhrg0 => (intro wz9 hSw; (try dsimp only at hSw); go_simp; try with_reducible rfl)
        go_simp
        refine wpAnyH_take (i := 2) (v := (.slice (some ⟨b8, off8, none⟩) n c8)) rfl (by kernel_rfl) (by kernel_rfl) (by kernel_rfl) (fun _ _ _ h => h) (Or.inl ⟨by rfl, ?hhrg2⟩) (by assumption) ?rrrg2
        case hhrg2 => (intro wz9 hSw; (try dsimp only at hSw); go_simp; try with_reducible rfl)
        go_simp
        refine wpAnyH_take (i := 3) (v := (.int .i64 (k : Int))) rfl (by kernel_rfl) (by kernel_rfl) (by kernel_rfl) (fun _ _ _ h => h) (Or.inl ⟨by rfl, ?hhrg3⟩) (by assumption) ?rrrg3
        case hhrg3 => (intro wz9 hSw; (try dsimp only at hSw); go_simp; try with_reducible rfl)
        go_simp
        refine wpAnyH_take (i := 4) (v := (.pointer (some ⟨b8, off8 + k, none⟩))) rfl (by kernel_rfl) (by kernel_rfl) (by kernel_rfl) (fun _ _ _ h => h) (Or.inl ⟨by rfl, ?hhrg4⟩) (by assumption) ?rrrg4
        case hhrg4 => (intro wz9 hSw; (try dsimp only at hSw); go_simp; try with_reducible rfl)
        go_simp
        refine wpAnyH_take (i := 5) (v := (.int .u16 (id : Int))) rfl (by kernel_rfl) (by kernel_rfl) (by kernel_rfl) (fun _ _ _ h => h) (Or.inl ⟨by rfl, ?hhrg5⟩) (by assumption) ?rrrg5
        case hhrg5 => (intro wz9 hSw; have z0 := (hSw.cell (p := ⟨b8, off8 + k, none⟩) HB8.out (fun f => f)).trans HQ8.out; clear hSw; go_simp; try with_reducible rfl)
        go_simp
        refine wpAnyH_ready (rs := [1, 7]) (by kernel_rfl) (by simp) ?_
        refine AllReadyH.cons rfl (fun K9 hK9 => ?_) (AllReadyH.cons rfl (fun K9 hK9 => ?_) AllReadyH.nil)
        ·
          go_simp
          go_wp2_with (go_at_call 11; refine (CF.out _ hHeld).mono ?_; rintro e wq ⟨af, cf, rfl, hrf, hkq⟩)
          have hHn := hHeld.trans hkq
          refine hK9.out _ _ ?_ (fun hHeld2 => ?_)
          · exact hHn
          clear hK9 K9 hHeld hHeld2
          have hHeld := hHn
          clear hHn
          refine wpAnyH_ready (rs := [6, 7]) (by kernel_rfl) (by simp) ?_
          refine AllReadyH.cons rfl (fun K9 hK9 => ?_) (AllReadyH.cons rfl (fun K9 hK9 => ?_) AllReadyH.nil)
          ·
            go_simp
            go_wp2_with (go_at_call 19; refine (CO.out _ _ _ hrf).mono ?_; rintro e wp ⟨rfl, hkp⟩)
            have hHn := hHeld.trans hkp
            refine hK9.out _ _ ?_ (fun hHeld2 => ?_)
            · exact hHn
            clear hK9 K9 hHeld hHeld2
            have hHeld := hHn
            clear hHn
            refine wpAnyH_ready (rs := [7]) (by kernel_rfl) (by simp) ?_
            refine AllReadyH.cons rfl (fun K9 hK9 => ?_) AllReadyH.nil
            go_simp
            have hB8 : Blk ((wp.alloc (.cells #[.int .u16 0, .int .i64 0, .int .i64 0] 49))) wp.heap.size 49 #[.int .u16 0, .int .i64 0, .int .i64 0] := Blk.new wp 49 #[.int .u16 0, .int .i64 0, .int .i64 0]
            have hkn8 : Kept No wp ((wp.alloc (.cells #[.int .u16 0, .int .i64 0, .int .i64 0] 49))) := ((Kept.refl No wp).alloc _)
            have hkag8 : Kept No wr ((wp.alloc (.cells #[.int .u16 0, .int .i64 0, .int .i64 0] 49))) := hHeld.trans hkn8
            obtain ⟨g8, hgg8⟩ : ∃ g, g = wp.heap.size := ⟨_, rfl⟩
            rw [← hgg8] at hB8
            try rw [← hgg8]
            have HGg8 : Hid (wr.heap.size ≤ g8) := Lib.hid (by rw [hgg8]; exact hHeld.size)
            clear hgg8
            generalize (wp.alloc (.cells #[.int .u16 0, .int .i64 0, .int .i64 0] 49)) = w8 at *
            refine hK9.out _ _ ?_ (fun hHeld2 => ?_)
            · exact hkag8
            clear hK9 K9 hHeld
            have hHeld := hHeld2
            clear hHeld2
            refine wpAnyH_ready (rs := [8]) (by kernel_rfl) (by simp) ?_
            refine AllReadyH.cons rfl (fun K9 hK9 => ?_) AllReadyH.nil
            have y0 := hB8.cell 0
            have y1 := hB8.cell 1
            have y2 := hB8.cell 2
            simp at y0 y1 y2
            have v0 := hB8.frozen 0
            have v1 := hB8.frozen 1
            have v2 := hB8.frozen 2
            have lg := hB8.lt
            go_simp
            refine hK9.out _ _ ?_ (fun hHeld2 => ?_)
            · exact ((hHeld.setCell (.inl HGg8.out) _).setCell (.inl HGg8.out) _).setCell (.inl HGg8.out) _
            clear hK9 K9
            refine wpAnyH_done (by kernel_rfl) ?_ _
            go_wp2_with fail
            go_meet
            exact ⟨g8, rfl, by have h9 := ((hB8.set_ 0 (.int .u16 (id : Int))).set_ 1 (.int .i64 s)).set_ 2 (.int .i64 0); simpa using h9, hHeld2⟩
          ·
            go_simp
            have hB8 : Blk ((wq.alloc (.cells #[.int .u16 0, .int .i64 0, .int .i64 0] 49))) wq.heap.size 49 #[.int .u16 0, .int .i64 0, .int .i64 0] := Blk.new wq 49 #[.int .u16 0, .int .i64 0, .int .i64 0]
            have hkn8 : Kept No wq ((wq.alloc (.cells #[.int .u16 0, .int .i64 0, .int .i64 0] 49))) := ((Kept.refl No wq).alloc _)
            have hkag8 : Kept No wr ((wq.alloc (.cells #[.int .u16 0, .int .i64 0, .int .i64 0] 49))) := hHeld.trans hkn8
            obtain ⟨g8, hgg8⟩ : ∃ g, g = wq.heap.size := ⟨_, rfl⟩
            rw [← hgg8] at hB8
            try rw [← hgg8]
            have HGg8 : Hid (wr.heap.size ≤ g8) := Lib.hid (by rw [hgg8]; exact hHeld.size)
            clear hgg8
            generalize (wq.alloc (.cells #[.int .u16 0, .int .i64 0, .int .i64 0] 49)) = w8 at *
            refine hK9.out _ _ ?_ (fun hHeld2 => ?_)
            · exact hkag8
            clear hK9 K9 hHeld
            have hHeld := hHeld2
            clear hHeld2
            have hrf2 := hrf.keptNo hkn8
            refine wpAnyH_ready (rs := [6]) (by kernel_rfl) (by simp) ?_
            refine AllReadyH.cons rfl (fun K9 hK9 => ?_) AllReadyH.nil
            go_simp
            go_wp2_with (go_at_call 19; refine (CO.out _ _ _ hrf2).mono ?_; rintro e wp ⟨rfl, hkp⟩)
            have hHn := hHeld.trans hkp
            refine hK9.out _ _ ?_ (fun hHeld2 => ?_)
            · exact hHn
            clear hK9 K9 hHeld hHeld2
            have hHeld := hHn
            clear hHn
            have hB9 := hB8.kept hkp (fun f => f)
            refine wpAnyH_ready (rs := [8]) (by kernel_rfl) (by simp) ?_
            refine AllReadyH.cons rfl (fun K9 hK9 => ?_) AllReadyH.nil
            have y0 := hB9.cell 0
            have y1 := hB9.cell 1
            have y2 := hB9.cell 2
            simp at y0 y1 y2
            have v0 := hB9.frozen 0
            have v1 := hB9.frozen 1
            have v2 := hB9.frozen 2
            have lg := hB9.lt
            go_simp
            refine hK9.out _ _ ?_ (fun hHeld2 => ?_)
            · exact ((hHeld.setCell (.inl HGg8.out) _).setCell (.inl HGg8.out) _).setCell (.inl HGg8.out) _
            clear hK9 K9
            refine wpAnyH_done (by kernel_rfl) ?_ _
            go_wp2_with fail
            go_meet
            exact ⟨g8, rfl, by have h9 := ((hB9.set_ 0 (.int .u16 (id : Int))).set_ 1 (.int .i64 s)).set_ 2 (.int .i64 0); simpa using h9, hHeld2⟩
        ·
          go_simp
          have hB8 : Blk ((wr.alloc (.cells #[.int .u16 0, .int .i64 0, .int .i64 0] 49)).drew) wr.heap.size 49 #[.int .u16 0, .int .i64 0, .int .i64 0] := Blk.new wr 49 #[.int .u16 0, .int .i64 0, .int .i64 0]
          have hkn8 : Kept No wr ((wr.alloc (.cells #[.int .u16 0, .int .i64 0, .int .i64 0] 49)).drew) := ((Kept.refl No wr).alloc _).drew
          have hkag8 : Kept No wr ((wr.alloc (.cells #[.int .u16 0, .int .i64 0, .int .i64 0] 49)).drew) := hkn8
          obtain ⟨g8, hgg8⟩ : ∃ g, g = wr.heap.size := ⟨_, rfl⟩
          rw [← hgg8] at hB8
          try rw [← hgg8]
          have HGg8 : Hid (wr.heap.size ≤ g8) := Lib.hid (by rw [hgg8]; exact Nat.le_refl _)
          clear hgg8
          generalize (wr.alloc (.cells #[.int .u16 0, .int .i64 0, .int .i64 0] 49)).drew = w8 at *
          refine hK9.out _ _ ?_ (fun hHeld2 => ?_)
          · exact hkag8
          clear hK9 K9 hHeld
          have hHeld := hHeld2
          clear hHeld2
          refine wpAnyH_ready (rs := [1]) (by kernel_rfl) (by simp) ?_
          refine AllReadyH.cons rfl (fun K9 hK9 => ?_) AllReadyH.nil
          go_simp
          go_wp2_with (go_at_call 11; refine (CF.out _ hHeld).mono ?_; rintro e wq ⟨af, cf, rfl, hrf, hkq⟩)
          have hHn := hHeld.trans hkq
          refine hK9.out _ _ ?_ (fun hHeld2 => ?_)
          · exact hHn
          clear hK9 K9 hHeld hHeld2
          have hHeld := hHn
          clear hHn
          have hB9 := hB8.kept hkq (fun f => f)
          refine wpAnyH_ready (rs := [6]) (by kernel_rfl) (by simp) ?_
          refine AllReadyH.cons rfl (fun K9 hK9 => ?_) AllReadyH.nil
          go_simp
          go_wp2_with (go_at_call 19; refine (CO.out _ _ _ hrf).mono ?_; rintro e wp ⟨rfl, hkp⟩)
          have hHn := hHeld.trans hkp
          refine hK9.out _ _ ?_ (fun hHeld2 => ?_)
          · exact hHn
          clear hK9 K9 hHeld hHeld2
          have hHeld := hHn
          clear hHn
          have hB10 := hB9.kept hkp (fun f => f)
          refine wpAnyH_ready (rs := [8]) (by kernel_rfl) (by simp) ?_
          refine AllReadyH.cons rfl (fun K9 hK9 => ?_) AllReadyH.nil
          have y0 := hB10.cell 0
          have y1 := hB10.cell 1
          have y2 := hB10.cell 2
          simp at y0 y1 y2
          have v0 := hB10.frozen 0
          have v1 := hB10.frozen 1
          have v2 := hB10.frozen 2
          have lg := hB10.lt
          go_simp
          refine hK9.out _ _ ?_ (fun hHeld2 => ?_)
          · exact ((hHeld.setCell (.inl HGg8.out) _).setCell (.inl HGg8.out) _).setCell (.inl HGg8.out) _
          clear hK9 K9
          refine wpAnyH_done (by kernel_rfl) ?_ _
          go_wp2_with fail
          go_meet
          exact ⟨g8, rfl, by have h9 := ((hB10.set_ 0 (.int .u16 (id : Int))).set_ 1 (.int .i64 s)).set_ 2 (.int .i64 0); simpa using h9, hHeld2⟩
      case rest =>
      obtain ⟨g, rfl, hB, hkx⟩ := hcut
      have hgc := hB.lt
      have HBc := Lib.hid hB
      have HSc := Lib.hid (HS.out.kept hkx)
      have hkc := hk.trans hkx
      have hq8c := (hkx.cell (p := ⟨b8, off8 + k, none⟩) HB8.out (fun f => f)).trans HQ8.out
      have HQ8c := Lib.hid hq8c
      have HB8c := Lib.hid (Nat.lt_of_lt_of_le HB8.out hkx.size)
      clear hB hq8c CF CO HS
      by_cases hf : j < FL.length
      · obtain ⟨b3, off3, rfl, hb3, q3⟩ := HR2.out.2.bl hf
        generalize FL[j] = bd at *
        have q3c := (hkc.cell (p := ⟨b3, off3 + j, none⟩) hb3 (fun f => f)).trans q3
        have hb3c := Nat.lt_of_lt_of_le hb3 hkc.size
        clear q3
        cases bd with
        | true =>
          have WAY := Lib.hid (turn_way HO.out hs2 hs4 true)
          have CT := Lib.hid (fun wx (hk9 : Kept No wc wx) (k9 : Int) M z m hM hm => turn_num a1 c L n k9 id true wx (HSc.out.tab.keptNo hk9) HSc.out.inv.right HLl.out HSc.out.len M z m hM hm)
          go_wp2
          go_loopw [16] (fun v wy => ∃ k9 : Nat, v = .int .i64 k9 ∧ 4 ≤ k9 ∧ k9 ≤ 12 ∧ Kept No wc wy) (fun v _ => 12 - (intOf v).toNat)
          case atStart => exact ⟨4, rfl, by omega, by omega, Kept.refl _ _⟩
          case round =>
            obtain ⟨k9, rfl, h4, h12, hky⟩ := hrel
            have hBy := HBc.out.kept hky (fun f => f)
            have ly := hBy.lt
            have q8y := (hky.cell (p := ⟨b8, off8 + k, none⟩) HB8c.out (fun f => f)).trans HQ8c.out
            have hb8y := Nat.lt_of_lt_of_le HB8c.out hky.size
            by_cases h11 : k9 ≤ 11
            · have h11I : (k9 : Int) ≤ 11 := by omega
              obtain ⟨M, z, hM⟩ : ∃ M z, turnR L k9 id true 0 = (M, z) := ⟨_, _, rfl⟩
              have hway : decide (z = 0) = decide ((k9 : Int) = s + 3) := by have := WAY.out k9 h4 h11; rwa [hM] at this
              have CTk := Lib.hid (CT.out _ hky _ M z M.length hM rfl)
              by_cases hz : z = 0
              · have he : (k9 : Int) = s + 3 := by rw [decide_eq_true hz] at hway; exact of_decide_eq_true hway.symm
                have heI : ((k9 : Int) == s + 3) = true := by simpa using he
                subst hz
                clear he hway hM
                go_wp2_with (go_at_call 14; refine CTk.out.mono ?_; rintro e wz ⟨am, cm, rfl, htm, hkz⟩; have y1z := (hBy.kept hkz (fun f => f)).cell 1; simp at y1z; have lyz := (hBy.kept hkz (fun f => f)).lt)
                go_roundw
                case rel => exact ⟨k9 + 1, by go_num, by omega, by omega, hky.trans hkz⟩
                case measure => simp [intOf]; omega
              · have he : ¬ (k9 : Int) = s + 3 := by rw [decide_eq_false hz] at hway; exact of_decide_eq_false hway.symm
                have heI : ((k9 : Int) == s + 3) = false := by simpa using he
                have hzI : (z == 0) = false := by simpa using hz
                clear he hway hM hz
                go_wp2_with (go_at_call 14; refine CTk.out.mono ?_; rintro e wz ⟨am, cm, rfl, htm, hkz⟩; have y1z := (hBy.kept hkz (fun f => f)).cell 1; simp at y1z; have lyz := (hBy.kept hkz (fun f => f)).lt)
                go_roundw
                case rel => exact ⟨k9 + 1, by go_num, by omega, by omega, hky.trans hkz⟩
                case measure => simp [intOf]; omega
            · have h11I : ¬ (k9 : Int) ≤ 11 := by omega
              have hta := turn_at HO.out hs2 hs4 true
              obtain ⟨M, hM⟩ : ∃ M, M = putR L id (if folZ (s + 3) true = 0 then none else some ⟨id, folZ (s + 3) true, 0⟩) := ⟨_, rfl⟩
              rw [← hM] at hta
              have HM := Lib.hid hM
              have CTL := Lib.hid (fun wx hk9 => CT.out wx hk9 (s + 3) M 0 M.length hta rfl)
              clear hta hM
              go_wp2
              refine wp_region_held_drew (S := (fun wx => Kept No wc wx)) (by kernel_rfl) ?_ (fun hHeld => ?_)
              · exact hky.drew
              refine wpAnyH_take (i := 0) (v := (.slice a1 n c)) rfl (by kernel_rfl) (by kernel_rfl) (by kernel_rfl) (fun _ _ _ h => h) (Or.inl ⟨by rfl, ?hhrtt0⟩) (by assumption) ?rrrtt0
              case hhrtt0 => (intro wz9 hSw; (try dsimp only at hSw); go_simp; try with_reducible rfl)
              go_simp
              refine wpAnyH_take (i := 1) (v := (.pointer (some ⟨g, 1, none⟩))) rfl (by kernel_rfl) (by kernel_rfl) (by kernel_rfl) (fun _ _ _ h => h) (Or.inl ⟨by rfl, ?hhrtt1⟩) (by assumption) ?rrrtt1
              case hhrtt1 => (intro wz9 hSw; (try dsimp only at hSw); go_simp; try with_reducible rfl)
              go_simp
              refine wpAnyH_take (i := 2) (v := (.int .i64 s)) rfl (by kernel_rfl) (by kernel_rfl) (by kernel_rfl) (fun _ _ _ h => h) (Or.inl ⟨by rfl, ?hhrtt2⟩) (by assumption) ?rrrtt2
              case hhrtt2 => (intro wz9 hSw; have z0 := (HBc.out.kept hSw (fun f => f)).cell 1; simp at z0; clear hSw; go_simp; try with_reducible rfl)
              go_simp
              refine wpAnyH_take (i := 3) (v := (.int .i64 (s + 3))) rfl (by kernel_rfl) (by kernel_rfl) (by kernel_rfl) (fun _ _ _ h => h) (Or.inl ⟨by rfl, ?hhrtt3⟩) (by assumption) ?rrrtt3
              case hhrtt3 => (intro wz9 hSw; clear hSw; go_simp; first | done | (rw [IntKind.wrap_i64]; omega))
              go_simp
              refine wpAnyH_take (i := 4) (v := (.slice (some ⟨b8, off8, none⟩) n c8)) rfl (by kernel_rfl) (by kernel_rfl) (by kernel_rfl) (fun _ _ _ h => h) (Or.inl ⟨by rfl, ?hhrtt4⟩) (by assumption) ?rrrtt4
              case hhrtt4 => (intro wz9 hSw; (try dsimp only at hSw); go_simp; try with_reducible rfl)
              go_simp
              refine wpAnyH_take (i := 5) (v := (.int .i64 (k : Int))) rfl (by kernel_rfl) (by kernel_rfl) (by kernel_rfl) (fun _ _ _ h => h) (Or.inl ⟨by rfl, ?hhrtt5⟩) (by assumption) ?rrrtt5
              case hhrtt5 => (intro wz9 hSw; (try dsimp only at hSw); go_simp; try with_reducible rfl)
              go_simp
              refine wpAnyH_take (i := 6) (v := (.pointer (some ⟨b8, off8 + k, none⟩))) rfl (by kernel_rfl) (by kernel_rfl) (by kernel_rfl) (fun _ _ _ h => h) (Or.inl ⟨by rfl, ?hhrtt6⟩) (by assumption) ?rrrtt6
              case hhrtt6 => (intro wz9 hSw; (try dsimp only at hSw); go_simp; try with_reducible rfl)
              go_simp
              refine wpAnyH_take (i := 7) (v := (.int .u16 (id : Int))) rfl (by kernel_rfl) (by kernel_rfl) (by kernel_rfl) (fun _ _ _ h => h) (Or.inl ⟨by rfl, ?hhrtt7⟩) (by assumption) ?rrrtt7
              case hhrtt7 => (intro wz9 hSw; have z0 := (hSw.cell (p := ⟨b8, off8 + k, none⟩) HB8c.out (fun f => f)).trans HQ8c.out; clear hSw; go_simp; try with_reducible rfl)
              go_simp
              refine wpAnyH_take (i := 8) (v := (.bool true)) rfl (by kernel_rfl) (by kernel_rfl) (by kernel_rfl) (fun _ _ _ h => h) (Or.inl ⟨by rfl, ?hhrtt8⟩) (by assumption) ?rrrtt8
              case hhrtt8 => (intro wz9 hSw; (try dsimp only at hSw); go_simp; try with_reducible rfl)
              go_simp
              refine wpAnyH_ready (rs := [9]) (by kernel_rfl) (by simp) ?_
              refine AllReadyH.cons rfl (fun K9 hK9 => ?_) AllReadyH.nil
              go_simp
              go_wp2_with (go_at_call 14; refine (CTL.out _ hHeld).mono ?_; rintro e wt ⟨am, cm, rfl, htm, hkt⟩)
              have hHn := hHeld.trans hkt
              refine hK9.out _ _ ?_ (fun hHeld2 => ?_)
              · exact hHn
              clear hK9 K9 hHeld hHeld2
              have hHeld := hHn
              clear hHn
              go_simp
              refine wpAnyH_take (i := 10) (v := (.tuple #[.slice am M.length cm, .int .i64 0])) rfl (by kernel_rfl) (by kernel_rfl) (by kernel_rfl) (fun _ _ _ h => h) (Or.inl ⟨by rfl, ?hhtt10⟩) (by assumption) ?rrtt10
              case hhtt10 => (intro wz9 hSw; (try dsimp only at hSw); go_simp; try with_reducible rfl)
              go_simp
              refine wpAnyH_take (i := 11) (v := (.slice am M.length cm)) rfl (by kernel_rfl) (by kernel_rfl) (by kernel_rfl) (fun _ _ _ h => h) (Or.inl ⟨by rfl, ?hhtt11⟩) (by assumption) ?rrtt11
              case hhtt11 => (intro wz9 hSw; (try dsimp only at hSw); go_simp; try with_reducible rfl)
              go_simp
              refine wpAnyH_take (i := 12) (v := (.int .i64 0)) rfl (by kernel_rfl) (by kernel_rfl) (by kernel_rfl) (fun _ _ _ h => h) (Or.inl ⟨by rfl, ?hhtt12⟩) (by assumption) ?rrtt12
              case hhtt12 => (intro wz9 hSw; (try dsimp only at hSw); go_simp; try with_reducible rfl)
              go_simp
              refine wpAnyH_take (i := 13) (v := (.slice am M.length cm)) rfl (by kernel_rfl) (by kernel_rfl) (by kernel_rfl) (fun _ _ _ h => h) (Or.inl ⟨by rfl, ?hhtt13⟩) (by assumption) ?rrtt13
              case hhtt13 => (intro wz9 hSw; (try dsimp only at hSw); go_simp; try with_reducible rfl)
              go_simp
              refine wpAnyH_take (i := 14) (v := (.int .i64 0)) rfl (by kernel_rfl) (by kernel_rfl) (by kernel_rfl) (fun _ _ _ h => h) (Or.inl ⟨by rfl, ?hhtt14⟩) (by assumption) ?rrtt14
              case hhtt14 => (intro wz9 hSw; (try dsimp only at hSw); go_simp; try with_reducible rfl)
              go_simp
              refine wpAnyH_done (by kernel_rfl) ?_ _
              have hBt := HBc.out.kept hHeld (fun f => f)
              have y1t := hBt.cell 1
              simp at y1t
              have lyt := hBt.lt
              have hkT := hkc.trans hHeld
              have HSt := Lib.hid (HSc.out.kept hHeld)
              rcases (show s = 2 ∨ s = 3 ∨ s = 4 from by omega) with rfl | rfl | rfl
              · skip
                have hM2 : M = putR L id none := by have := HM.out; rw [show folZ (2 + 3) true = 0 from rfl, if_pos rfl] at this; exact this
                have hinv := RInv.off (P := NL.take k) (S := NL.drop (k + 1)) (by rw [← HSP.out]; exact HSc.out.inv) HO.out
                rw [← hM2] at hinv
                have hml : M.length = k + (n - (k + 1)) := by have h1 := hinv.len; have h2 := HNL.out; rw [List.length_append, List.length_take, List.length_drop] at h1; omega
                have HF := Lib.hid (And.intro hinv hml)
                simp only [hml]
                clear hM2 hinv hml
                have hc8 := HSt.out.cap
                have hkc8 : k ≤ c8 := by omega
                have hk1c8 : (k : Int) + 1 ≤ (c8 : Int) := by omega
                have hk1n : (k : Int) + 1 ≤ (n : Int) := by omega
                obtain ⟨AD, hAD⟩ : ∃ AD : Addr, AD = if c8 = k + 1 then ⟨b8, off8, none⟩ else ⟨b8, off8 + (k + 1), none⟩ := ⟨_, rfl⟩
                have HAD := Lib.hid hAD
                clear hAD
                go_wp2
                refine wp_region_held_drew (S := (fun wx => Kept No wt wx)) (by kernel_rfl) ?_ (fun hHeld => ?_)
                · exact (Kept.refl No wt).drew
                refine wpAnyH_take (i := 1) (v := (.slice (some ⟨b8, off8, none⟩) n c8)) rfl (by kernel_rfl) (by kernel_rfl) (by kernel_rfl) (fun _ _ _ h => h) (Or.inl ⟨by rfl, ?hhrut21⟩) (by assumption) ?rrrut21
                case hhrut21 => (intro wz9 hSw; (try dsimp only at hSw); go_simp; try with_reducible rfl)
                go_simp
                refine wpAnyH_take (i := 2) (v := (.int .i64 (k : Int))) rfl (by kernel_rfl) (by kernel_rfl) (by kernel_rfl) (fun _ _ _ h => h) (Or.inl ⟨by rfl, ?hhrut22⟩) (by assumption) ?rrrut22
                case hhrut22 => (intro wz9 hSw; (try dsimp only at hSw); go_simp; try with_reducible rfl)
                go_simp
                refine wpAnyH_take (i := 3) (v := (.slice (some ⟨b8, off8, none⟩) k c8)) rfl (by kernel_rfl) (by kernel_rfl) (by kernel_rfl) (fun _ _ _ h => h) (Or.inl ⟨by rfl, ?hhrut23⟩) (by assumption) ?rrrut23
                case hhrut23 => (intro wz9 hSw; (try dsimp only at hSw); go_simp; try with_reducible rfl)
                go_simp
                refine wpAnyH_take (i := 5) (v := (.slice (some ⟨b8, off8, none⟩) n c8)) rfl (by kernel_rfl) (by kernel_rfl) (by kernel_rfl) (fun _ _ _ h => h) (Or.inl ⟨by rfl, ?hhrut25⟩) (by assumption) ?rrrut25
                case hhrut25 => (intro wz9 hSw; (try dsimp only at hSw); go_simp; try with_reducible rfl)
                go_simp
                refine wpAnyH_take (i := 6) (v := (.int .i64 (k : Int))) rfl (by kernel_rfl) (by kernel_rfl) (by kernel_rfl) (fun _ _ _ h => h) (Or.inl ⟨by rfl, ?hhrut26⟩) (by assumption) ?rrrut26
                case hhrut26 => (intro wz9 hSw; (try dsimp only at hSw); go_simp; try with_reducible rfl)
                go_simp
                refine wpAnyH_take (i := 7) (v := (.int .i64 ((k : Int) + 1))) rfl (by kernel_rfl) (by kernel_rfl) (by kernel_rfl) (fun _ _ _ h => h) (Or.inl ⟨by rfl, ?hhrut27⟩) (by assumption) ?rrrut27
                case hhrut27 => (intro wz9 hSw; clear hSw; go_simp; first | done | (rw [IntKind.wrap_i64]; omega))
                go_simp
                refine wpAnyH_take (i := 8) (v := (.slice (some AD) (n - (k + 1)) (c8 - (k + 1)))) rfl (by kernel_rfl) (by kernel_rfl) (by kernel_rfl) (fun _ _ _ h => h) (Or.inl ⟨by rfl, ?hhrut28⟩) (by assumption) ?rrrut28
                case hhrut28 => (intro wz9 hSw; clear hSw; go_simp; first | (rw [if_pos (by omega)]; rw [HAD.out]; split <;> rfl) | (rw [if_pos ⟨by omega, by omega⟩]; rw [HAD.out]; split <;> rfl) | (rw [HAD.out]; split <;> rfl) | trace_state)
                go_simp
                refine wpAnyH_ready (rs := [0]) (by kernel_rfl) (by simp) ?_
                refine AllReadyH.cons rfl (fun K9 hK9 => ?_) AllReadyH.nil
                go_simp
                have hown0 : ((wt.alloc (.cells #[] 30)).drew).ownsRow wt.heap.size 30 1 (.slice (some ⟨wt.heap.size, 0, none⟩) 0 0) 0 [] := own_empty wt _ _ (Nat.le_refl _)
                have hk5 : Kept No wt ((wt.alloc (.cells #[] 30)).drew) := ((Kept.refl No wt).alloc _).drew
                have hs5 := hk5.size
                obtain ⟨g5, hg5⟩ : ∃ g, g = wt.heap.size := ⟨_, rfl⟩
                rw [← hg5] at hown0
                rw [← hg5]
                have hbase5 : g5 ≤ ((wt.alloc (.cells #[] 30)).drew).heap.size := by rw [hg5]; exact hs5
                have HG5 := Lib.hid hg5
                clear hg5
                generalize ((wt.alloc (.cells #[] 30)).drew) = w5 at *
                refine hK9.out _ _ ?_ (fun hHeld2 => ?_)
                · exact hk5
                clear hK9 K9 hHeld2
                refine wpAnyH_ready (rs := [4]) (by kernel_rfl) (by simp) ?_
                refine AllReadyH.cons rfl (fun K9 hK9 => ?_) AllReadyH.nil
                have hrt := (HSt.out.now.keptNo hk5).take k
                have hlt9 : (NC (NL.take k)).length = k * 1 := by rw [NC_length, List.length_take]; have := HNL.out; omega
                have hcl1 : ∀ j u, (NC (NL.take k))[j]? = some u → w5.cell? ((⟨b8, off8, none⟩ : Addr).add j) = some u := by have := hrt.at_add _ rfl; rwa [show (NC NL).take k = NC (NL.take k) by simp [NC, List.map_take]] at this
                obtain ⟨v6, w6, hrun6, hown6, hg6, _⟩ := run_append_own (P := Try.prog) w5 g5 45 45 30 i0 _ 1 2 Try.underlying45 hi hz0 hz1 hz2 rfl (by decide) _ _ _ hown0 ⟨b8, off8, none⟩ k c8 (NC (NL.take k)) hlt9 hcl1 (NC_one _) (by unfold maxLen; omega) (by omega) hbase5
                have hk6 : Kept No wt w6 := hk5.grown hg6 (fun q hq => .inl (by have := (hown0.lt q hq).1; have := HG5.out; omega))
                refine op_appendN (.tmp 158) (.tmp 161) 45 rfl rfl rfl hrun6 ?_
                refine hK9.out _ _ ?_ (fun hHeld2 => ?_)
                · exact hk6
                clear hK9 K9 hHeld2
                go_simp
                refine wpAnyH_ready (rs := [9]) (by kernel_rfl) (by simp) ?_
                refine AllReadyH.cons rfl (fun K9 hK9 => ?_) AllReadyH.nil
                have hrd : Row w6 (some AD) ((NC NL).drop (k + 1)) := by have h1 := (HSt.out.now.keptNo hk6).drop (k := k + 1) (cap := c8) (by rw [NC_length]; have := HNL.out; omega); rw [HAD.out]; split at h1 <;> (rename_i h2; simp only [h2, if_true, if_false] at h1 ⊢; first | exact h1 | simpa [Addr.add] using h1)
                have hld9 : (NC (NL.drop (k + 1))).length = (n - (k + 1)) * 1 := by rw [NC_length, List.length_drop]; have := HNL.out; omega
                have hcl2 : ∀ j u, (NC (NL.drop (k + 1)))[j]? = some u → w6.cell? (AD.add j) = some u := by have := hrd.at_add _ rfl; rwa [show (NC NL).drop (k + 1) = NC (NL.drop (k + 1)) by simp [NC, List.map_drop]] at this
                obtain ⟨v7, w7, hrun7, hown7, hg7, _⟩ := run_append_own (P := Try.prog) w6 g5 45 45 30 i0 _ 1 2 Try.underlying45 hi hz0 hz1 hz2 rfl (by decide) _ _ _ hown6 AD (n - (k + 1)) (c8 - (k + 1)) (NC (NL.drop (k + 1))) hld9 hcl2 (NC_one _) (by unfold maxLen; omega) (by omega) (by have := HG5.out; have := hk6.size; omega)
                have hk7 : Kept No wt w7 := hk6.grown hg7 (fun q hq => .inl (by have := (hown6.lt q hq).1; have := HG5.out; omega))
                refine op_appendN (.tmp 162) (.tmp 166) 45 rfl rfl rfl hrun7 ?_
                refine hK9.out _ _ ?_ (fun hHeld2 => ?_)
                · exact hk7
                clear hK9 K9
                go_simp
                refine wpAnyH_take (i := 10) (v := v7) rfl (by kernel_rfl) (by kernel_rfl) (by kernel_rfl) (fun _ _ _ h => h) (Or.inl ⟨by rfl, ?hhvrut2⟩) (by assumption) ?rrvrut2
                case hhvrut2 => (intro wz9 hSw; (try dsimp only at hSw); go_simp; try with_reducible rfl)
                go_simp
                refine wpAnyH_done (by kernel_rfl) ?_ _
                obtain ⟨a9, c9, h9, hr9, hn9⟩ := own_form hown7
                have hcap9 : 0 + k + (n - (k + 1)) ≤ c9 := by rw [h9] at hown7; exact own_cap hown7
                subst h9
                have hr9b : Row w7 a9 (NC (NL.take k ++ NL.drop (k + 1))) := by rw [NC_append]; simpa using hr9
                go_wp2
                go_roundw
                case rel =>
                  refine ⟨j + 1, k + (n - (k + 1)), cm, c9, am, a9, M, NL.take k ++ NL.drop (k + 1), ?_, ?_, ?_, ?_, ?_, ?_, ?_, ?_⟩
                  · go_num
                  · first | rfl | trace_state
                  · first | rfl | (simp; done) | trace_state
                  · omega
                  · omega
                  · omega
                  · exact Lib.hid ⟨HF.out.1, HF.out.2, htm.keptNo hk7, hr9b, (fun h => by have := hn9 h; omega), (by omega)⟩
                  · exact hkT.trans hk7
                case measure => simp [intOf]; omega
              · skip
                have hM2 : M = putR L id (some ⟨id, 3 + 1, 0⟩) := by have := HM.out; rw [show folZ (3 + 3) true = 3 + 1 from rfl, if_neg (by decide)] at this; exact this
                have hinv := HSc.out.inv.on HO.out (by omega) (by omega)
                rw [← hM2] at hinv
                have hml : M.length = n := by have h1 := hinv.len; have h2 := HNL.out; omega
                have HF := Lib.hid (And.intro hinv hml)
                simp only [hml]
                clear hM2 hinv hml
                go_wp2
                go_roundw
                case rel => first | exact ⟨j + 1, n, cm, c8, am, _, M, NL, by go_num, rfl, rfl, by omega, by omega, by omega, Lib.hid ⟨HF.out.1, HF.out.2, htm, HSt.out.now, HSt.out.nil, HSt.out.cap⟩, hkT⟩ | ((repeat apply Exists.intro); exact ⟨⟨j + 1, n, cm, c8, am, _, M, NL, by go_num, rfl, rfl, by omega, by omega, by omega, Lib.hid ⟨HF.out.1, HF.out.2, htm, HSt.out.now, HSt.out.nil, HSt.out.cap⟩, hkT⟩, rfl⟩)
                case measure => simp [intOf]; omega
              · skip
                have hM2 : M = putR L id none := by have := HM.out; rw [show folZ (4 + 3) true = 0 from rfl, if_pos rfl] at this; exact this
                have hinv := RInv.off (P := NL.take k) (S := NL.drop (k + 1)) (by rw [← HSP.out]; exact HSc.out.inv) HO.out
                rw [← hM2] at hinv
                have hml : M.length = k + (n - (k + 1)) := by have h1 := hinv.len; have h2 := HNL.out; rw [List.length_append, List.length_take, List.length_drop] at h1; omega
                have HF := Lib.hid (And.intro hinv hml)
                simp only [hml]
                clear hM2 hinv hml
                have hc8 := HSt.out.cap
                have hkc8 : k ≤ c8 := by omega
                have hk1c8 : (k : Int) + 1 ≤ (c8 : Int) := by omega
                have hk1n : (k : Int) + 1 ≤ (n : Int) := by omega
                obtain ⟨AD, hAD⟩ : ∃ AD : Addr, AD = if c8 = k + 1 then ⟨b8, off8, none⟩ else ⟨b8, off8 + (k + 1), none⟩ := ⟨_, rfl⟩
                have HAD := Lib.hid hAD
                clear hAD
                go_wp2
                refine wp_region_held_drew (S := (fun wx => Kept No wt wx)) (by kernel_rfl) ?_ (fun hHeld => ?_)
                · exact (Kept.refl No wt).drew
                refine wpAnyH_take (i := 1) (v := (.slice (some ⟨b8, off8, none⟩) n c8)) rfl (by kernel_rfl) (by kernel_rfl) (by kernel_rfl) (fun _ _ _ h => h) (Or.inl ⟨by rfl, ?hhrut41⟩) (by assumption) ?rrrut41
                case hhrut41 => (intro wz9 hSw; (try dsimp only at hSw); go_simp; try with_reducible rfl)
                go_simp
                refine wpAnyH_take (i := 2) (v := (.int .i64 (k : Int))) rfl (by kernel_rfl) (by kernel_rfl) (by kernel_rfl) (fun _ _ _ h => h) (Or.inl ⟨by rfl, ?hhrut42⟩) (by assumption) ?rrrut42
                case hhrut42 => (intro wz9 hSw; (try dsimp only at hSw); go_simp; try with_reducible rfl)
                go_simp
                refine wpAnyH_take (i := 3) (v := (.slice (some ⟨b8, off8, none⟩) k c8)) rfl (by kernel_rfl) (by kernel_rfl) (by kernel_rfl) (fun _ _ _ h => h) (Or.inl ⟨by rfl, ?hhrut43⟩) (by assumption) ?rrrut43
                case hhrut43 => (intro wz9 hSw; (try dsimp only at hSw); go_simp; try with_reducible rfl)
                go_simp
                refine wpAnyH_take (i := 5) (v := (.slice (some ⟨b8, off8, none⟩) n c8)) rfl (by kernel_rfl) (by kernel_rfl) (by kernel_rfl) (fun _ _ _ h => h) (Or.inl ⟨by rfl, ?hhrut45⟩) (by assumption) ?rrrut45
                case hhrut45 => (intro wz9 hSw; (try dsimp only at hSw); go_simp; try with_reducible rfl)
                go_simp
                refine wpAnyH_take (i := 6) (v := (.int .i64 (k : Int))) rfl (by kernel_rfl) (by kernel_rfl) (by kernel_rfl) (fun _ _ _ h => h) (Or.inl ⟨by rfl, ?hhrut46⟩) (by assumption) ?rrrut46
                case hhrut46 => (intro wz9 hSw; (try dsimp only at hSw); go_simp; try with_reducible rfl)
                go_simp
                refine wpAnyH_take (i := 7) (v := (.int .i64 ((k : Int) + 1))) rfl (by kernel_rfl) (by kernel_rfl) (by kernel_rfl) (fun _ _ _ h => h) (Or.inl ⟨by rfl, ?hhrut47⟩) (by assumption) ?rrrut47
                case hhrut47 => (intro wz9 hSw; clear hSw; go_simp; first | done | (rw [IntKind.wrap_i64]; omega))
                go_simp
                refine wpAnyH_take (i := 8) (v := (.slice (some AD) (n - (k + 1)) (c8 - (k + 1)))) rfl (by kernel_rfl) (by kernel_rfl) (by kernel_rfl) (fun _ _ _ h => h) (Or.inl ⟨by rfl, ?hhrut48⟩) (by assumption) ?rrrut48
                case hhrut48 => (intro wz9 hSw; clear hSw; go_simp; first | (rw [if_pos (by omega)]; rw [HAD.out]; split <;> rfl) | (rw [if_pos ⟨by omega, by omega⟩]; rw [HAD.out]; split <;> rfl) | (rw [HAD.out]; split <;> rfl) | trace_state)
                go_simp
                refine wpAnyH_ready (rs := [0]) (by kernel_rfl) (by simp) ?_
                refine AllReadyH.cons rfl (fun K9 hK9 => ?_) AllReadyH.nil
                go_simp
                have hown0 : ((wt.alloc (.cells #[] 30)).drew).ownsRow wt.heap.size 30 1 (.slice (some ⟨wt.heap.size, 0, none⟩) 0 0) 0 [] := own_empty wt _ _ (Nat.le_refl _)
                have hk5 : Kept No wt ((wt.alloc (.cells #[] 30)).drew) := ((Kept.refl No wt).alloc _).drew
                have hs5 := hk5.size
                obtain ⟨g5, hg5⟩ : ∃ g, g = wt.heap.size := ⟨_, rfl⟩
                rw [← hg5] at hown0
                rw [← hg5]
                have hbase5 : g5 ≤ ((wt.alloc (.cells #[] 30)).drew).heap.size := by rw [hg5]; exact hs5
                have HG5 := Lib.hid hg5
                clear hg5
                generalize ((wt.alloc (.cells #[] 30)).drew) = w5 at *
                refine hK9.out _ _ ?_ (fun hHeld2 => ?_)
                · exact hk5
                clear hK9 K9 hHeld2
                refine wpAnyH_ready (rs := [4]) (by kernel_rfl) (by simp) ?_
                refine AllReadyH.cons rfl (fun K9 hK9 => ?_) AllReadyH.nil
                have hrt := (HSt.out.now.keptNo hk5).take k
                have hlt9 : (NC (NL.take k)).length = k * 1 := by rw [NC_length, List.length_take]; have := HNL.out; omega
                have hcl1 : ∀ j u, (NC (NL.take k))[j]? = some u → w5.cell? ((⟨b8, off8, none⟩ : Addr).add j) = some u := by have := hrt.at_add _ rfl; rwa [show (NC NL).take k = NC (NL.take k) by simp [NC, List.map_take]] at this
                obtain ⟨v6, w6, hrun6, hown6, hg6, _⟩ := run_append_own (P := Try.prog) w5 g5 45 45 30 i0 _ 1 2 Try.underlying45 hi hz0 hz1 hz2 rfl (by decide) _ _ _ hown0 ⟨b8, off8, none⟩ k c8 (NC (NL.take k)) hlt9 hcl1 (NC_one _) (by unfold maxLen; omega) (by omega) hbase5
                have hk6 : Kept No wt w6 := hk5.grown hg6 (fun q hq => .inl (by have := (hown0.lt q hq).1; have := HG5.out; omega))
                refine op_appendN (.tmp 158) (.tmp 161) 45 rfl rfl rfl hrun6 ?_
                refine hK9.out _ _ ?_ (fun hHeld2 => ?_)
                · exact hk6
                clear hK9 K9 hHeld2
                go_simp
                refine wpAnyH_ready (rs := [9]) (by kernel_rfl) (by simp) ?_
                refine AllReadyH.cons rfl (fun K9 hK9 => ?_) AllReadyH.nil
                have hrd : Row w6 (some AD) ((NC NL).drop (k + 1)) := by have h1 := (HSt.out.now.keptNo hk6).drop (k := k + 1) (cap := c8) (by rw [NC_length]; have := HNL.out; omega); rw [HAD.out]; split at h1 <;> (rename_i h2; simp only [h2, if_true, if_false] at h1 ⊢; first | exact h1 | simpa [Addr.add] using h1)
                have hld9 : (NC (NL.drop (k + 1))).length = (n - (k + 1)) * 1 := by rw [NC_length, List.length_drop]; have := HNL.out; omega
                have hcl2 : ∀ j u, (NC (NL.drop (k + 1)))[j]? = some u → w6.cell? (AD.add j) = some u := by have := hrd.at_add _ rfl; rwa [show (NC NL).drop (k + 1) = NC (NL.drop (k + 1)) by simp [NC, List.map_drop]] at this
                obtain ⟨v7, w7, hrun7, hown7, hg7, _⟩ := run_append_own (P := Try.prog) w6 g5 45 45 30 i0 _ 1 2 Try.underlying45 hi hz0 hz1 hz2 rfl (by decide) _ _ _ hown6 AD (n - (k + 1)) (c8 - (k + 1)) (NC (NL.drop (k + 1))) hld9 hcl2 (NC_one _) (by unfold maxLen; omega) (by omega) (by have := HG5.out; have := hk6.size; omega)
                have hk7 : Kept No wt w7 := hk6.grown hg7 (fun q hq => .inl (by have := (hown6.lt q hq).1; have := HG5.out; omega))
                refine op_appendN (.tmp 162) (.tmp 166) 45 rfl rfl rfl hrun7 ?_
                refine hK9.out _ _ ?_ (fun hHeld2 => ?_)
                · exact hk7
                clear hK9 K9
                go_simp
                refine wpAnyH_take (i := 10) (v := v7) rfl (by kernel_rfl) (by kernel_rfl) (by kernel_rfl) (fun _ _ _ h => h) (Or.inl ⟨by rfl, ?hhvrut4⟩) (by assumption) ?rrvrut4
                case hhvrut4 => (intro wz9 hSw; (try dsimp only at hSw); go_simp; try with_reducible rfl)
                go_simp
                refine wpAnyH_done (by kernel_rfl) ?_ _
                obtain ⟨a9, c9, h9, hr9, hn9⟩ := own_form hown7
                have hcap9 : 0 + k + (n - (k + 1)) ≤ c9 := by rw [h9] at hown7; exact own_cap hown7
                subst h9
                have hr9b : Row w7 a9 (NC (NL.take k ++ NL.drop (k + 1))) := by rw [NC_append]; simpa using hr9
                go_wp2
                go_roundw
                case rel =>
                  refine ⟨j + 1, k + (n - (k + 1)), cm, c9, am, a9, M, NL.take k ++ NL.drop (k + 1), ?_, ?_, ?_, ?_, ?_, ?_, ?_, ?_⟩
                  · go_num
                  · first | rfl | trace_state
                  · first | rfl | (simp; done) | trace_state
                  · omega
                  · omega
                  · omega
                  · exact Lib.hid ⟨HF.out.1, HF.out.2, htm.keptNo hk7, hr9b, (fun h => by have := hn9 h; omega), (by omega)⟩
                  · exact hkT.trans hk7
                case measure => simp [intOf]; omega
        | false =>
          have WAY := Lib.hid (turn_way HO.out hs2 hs4 false)
          have CT := Lib.hid (fun wx (hk9 : Kept No wc wx) (k9 : Int) M z m hM hm => turn_num a1 c L n k9 id false wx (HSc.out.tab.keptNo hk9) HSc.out.inv.right HLl.out HSc.out.len M z m hM hm)
          go_wp2
          go_loopw [16] (fun v wy => ∃ k9 : Nat, v = .int .i64 k9 ∧ 4 ≤ k9 ∧ k9 ≤ 12 ∧ Kept No wc wy) (fun v _ => 12 - (intOf v).toNat)
          case atStart => exact ⟨4, rfl, by omega, by omega, Kept.refl _ _⟩
          case round =>
            obtain ⟨k9, rfl, h4, h12, hky⟩ := hrel
            have hBy := HBc.out.kept hky (fun f => f)
            have ly := hBy.lt
            have q8y := (hky.cell (p := ⟨b8, off8 + k, none⟩) HB8c.out (fun f => f)).trans HQ8c.out
            have hb8y := Nat.lt_of_lt_of_le HB8c.out hky.size
            by_cases h11 : k9 ≤ 11
            · have h11I : (k9 : Int) ≤ 11 := by omega
              obtain ⟨M, z, hM⟩ : ∃ M z, turnR L k9 id false 0 = (M, z) := ⟨_, _, rfl⟩
              have hway : decide (z = 0) = decide ((k9 : Int) = s + 3) := by have := WAY.out k9 h4 h11; rwa [hM] at this
              have CTk := Lib.hid (CT.out _ hky _ M z M.length hM rfl)
              by_cases hz : z = 0
              · have he : (k9 : Int) = s + 3 := by rw [decide_eq_true hz] at hway; exact of_decide_eq_true hway.symm
                have heI : ((k9 : Int) == s + 3) = true := by simpa using he
                subst hz
                clear he hway hM
                go_wp2_with (go_at_call 14; refine CTk.out.mono ?_; rintro e wz ⟨am, cm, rfl, htm, hkz⟩; have y1z := (hBy.kept hkz (fun f => f)).cell 1; simp at y1z; have lyz := (hBy.kept hkz (fun f => f)).lt)
                go_roundw
                case rel => exact ⟨k9 + 1, by go_num, by omega, by omega, hky.trans hkz⟩
                case measure => simp [intOf]; omega
              · have he : ¬ (k9 : Int) = s + 3 := by rw [decide_eq_false hz] at hway; exact of_decide_eq_false hway.symm
                have heI : ((k9 : Int) == s + 3) = false := by simpa using he
                have hzI : (z == 0) = false := by simpa using hz
                clear he hway hM hz
                go_wp2_with (go_at_call 14; refine CTk.out.mono ?_; rintro e wz ⟨am, cm, rfl, htm, hkz⟩; have y1z := (hBy.kept hkz (fun f => f)).cell 1; simp at y1z; have lyz := (hBy.kept hkz (fun f => f)).lt)
                go_roundw
                case rel => exact ⟨k9 + 1, by go_num, by omega, by omega, hky.trans hkz⟩
                case measure => simp [intOf]; omega
            · have h11I : ¬ (k9 : Int) ≤ 11 := by omega
              have hta := turn_at HO.out hs2 hs4 false
              obtain ⟨M, hM⟩ : ∃ M, M = putR L id (if folZ (s + 3) false = 0 then none else some ⟨id, folZ (s + 3) false, 0⟩) := ⟨_, rfl⟩
              rw [← hM] at hta
              have HM := Lib.hid hM
              have CTL := Lib.hid (fun wx hk9 => CT.out wx hk9 (s + 3) M 0 M.length hta rfl)
              clear hta hM
              go_wp2
              refine wp_region_held_drew (S := (fun wx => Kept No wc wx)) (by kernel_rfl) ?_ (fun hHeld => ?_)
              · exact hky.drew
              refine wpAnyH_take (i := 0) (v := (.slice a1 n c)) rfl (by kernel_rfl) (by kernel_rfl) (by kernel_rfl) (fun _ _ _ h => h) (Or.inl ⟨by rfl, ?hhrtf0⟩) (by assumption) ?rrrtf0
              case hhrtf0 => (intro wz9 hSw; (try dsimp only at hSw); go_simp; try with_reducible rfl)
              go_simp
              refine wpAnyH_take (i := 1) (v := (.pointer (some ⟨g, 1, none⟩))) rfl (by kernel_rfl) (by kernel_rfl) (by kernel_rfl) (fun _ _ _ h => h) (Or.inl ⟨by rfl, ?hhrtf1⟩) (by assumption) ?rrrtf1
              case hhrtf1 => (intro wz9 hSw; (try dsimp only at hSw); go_simp; try with_reducible rfl)
              go_simp
              refine wpAnyH_take (i := 2) (v := (.int .i64 s)) rfl (by kernel_rfl) (by kernel_rfl) (by kernel_rfl) (fun _ _ _ h => h) (Or.inl ⟨by rfl, ?hhrtf2⟩) (by assumption) ?rrrtf2
              case hhrtf2 => (intro wz9 hSw; have z0 := (HBc.out.kept hSw (fun f => f)).cell 1; simp at z0; clear hSw; go_simp; try with_reducible rfl)
              go_simp
              refine wpAnyH_take (i := 3) (v := (.int .i64 (s + 3))) rfl (by kernel_rfl) (by kernel_rfl) (by kernel_rfl) (fun _ _ _ h => h) (Or.inl ⟨by rfl, ?hhrtf3⟩) (by assumption) ?rrrtf3
              case hhrtf3 => (intro wz9 hSw; clear hSw; go_simp; first | done | (rw [IntKind.wrap_i64]; omega))
              go_simp
              refine wpAnyH_take (i := 4) (v := (.slice (some ⟨b8, off8, none⟩) n c8)) rfl (by kernel_rfl) (by kernel_rfl) (by kernel_rfl) (fun _ _ _ h => h) (Or.inl ⟨by rfl, ?hhrtf4⟩) (by assumption) ?rrrtf4
              case hhrtf4 => (intro wz9 hSw; (try dsimp only at hSw); go_simp; try with_reducible rfl)
              go_simp
              refine wpAnyH_take (i := 5) (v := (.int .i64 (k : Int))) rfl (by kernel_rfl) (by kernel_rfl) (by kernel_rfl) (fun _ _ _ h => h) (Or.inl ⟨by rfl, ?hhrtf5⟩) (by assumption) ?rrrtf5
              case hhrtf5 => (intro wz9 hSw; (try dsimp only at hSw); go_simp; try with_reducible rfl)
              go_simp
              refine wpAnyH_take (i := 6) (v := (.pointer (some ⟨b8, off8 + k, none⟩))) rfl (by kernel_rfl) (by kernel_rfl) (by kernel_rfl) (fun _ _ _ h => h) (Or.inl ⟨by rfl, ?hhrtf6⟩) (by assumption) ?rrrtf6
              case hhrtf6 => (intro wz9 hSw; (try dsimp only at hSw); go_simp; try with_reducible rfl)
              go_simp
              refine wpAnyH_take (i := 7) (v := (.int .u16 (id : Int))) rfl (by kernel_rfl) (by kernel_rfl) (by kernel_rfl) (fun _ _ _ h => h) (Or.inl ⟨by rfl, ?hhrtf7⟩) (by assumption) ?rrrtf7
              case hhrtf7 => (intro wz9 hSw; have z0 := (hSw.cell (p := ⟨b8, off8 + k, none⟩) HB8c.out (fun f => f)).trans HQ8c.out; clear hSw; go_simp; try with_reducible rfl)
              go_simp
              refine wpAnyH_take (i := 8) (v := (.bool false)) rfl (by kernel_rfl) (by kernel_rfl) (by kernel_rfl) (fun _ _ _ h => h) (Or.inl ⟨by rfl, ?hhrtf8⟩) (by assumption) ?rrrtf8
              case hhrtf8 => (intro wz9 hSw; (try dsimp only at hSw); go_simp; try with_reducible rfl)
              go_simp
              refine wpAnyH_ready (rs := [9]) (by kernel_rfl) (by simp) ?_
              refine AllReadyH.cons rfl (fun K9 hK9 => ?_) AllReadyH.nil
              go_simp
              go_wp2_with (go_at_call 14; refine (CTL.out _ hHeld).mono ?_; rintro e wt ⟨am, cm, rfl, htm, hkt⟩)
              have hHn := hHeld.trans hkt
              refine hK9.out _ _ ?_ (fun hHeld2 => ?_)
              · exact hHn
              clear hK9 K9 hHeld hHeld2
              have hHeld := hHn
              clear hHn
              go_simp
              refine wpAnyH_take (i := 10) (v := (.tuple #[.slice am M.length cm, .int .i64 0])) rfl (by kernel_rfl) (by kernel_rfl) (by kernel_rfl) (fun _ _ _ h => h) (Or.inl ⟨by rfl, ?hhtf10⟩) (by assumption) ?rrtf10
              case hhtf10 => (intro wz9 hSw; (try dsimp only at hSw); go_simp; try with_reducible rfl)
              go_simp
              refine wpAnyH_take (i := 11) (v := (.slice am M.length cm)) rfl (by kernel_rfl) (by kernel_rfl) (by kernel_rfl) (fun _ _ _ h => h) (Or.inl ⟨by rfl, ?hhtf11⟩) (by assumption) ?rrtf11
              case hhtf11 => (intro wz9 hSw; (try dsimp only at hSw); go_simp; try with_reducible rfl)
              go_simp
              refine wpAnyH_take (i := 12) (v := (.int .i64 0)) rfl (by kernel_rfl) (by kernel_rfl) (by kernel_rfl) (fun _ _ _ h => h) (Or.inl ⟨by rfl, ?hhtf12⟩) (by assumption) ?rrtf12
              case hhtf12 => (intro wz9 hSw; (try dsimp only at hSw); go_simp; try with_reducible rfl)
              go_simp
              refine wpAnyH_take (i := 13) (v := (.slice am M.length cm)) rfl (by kernel_rfl) (by kernel_rfl) (by kernel_rfl) (fun _ _ _ h => h) (Or.inl ⟨by rfl, ?hhtf13⟩) (by assumption) ?rrtf13
              case hhtf13 => (intro wz9 hSw; (try dsimp only at hSw); go_simp; try with_reducible rfl)
              go_simp
              refine wpAnyH_take (i := 14) (v := (.int .i64 0)) rfl (by kernel_rfl) (by kernel_rfl) (by kernel_rfl) (fun _ _ _ h => h) (Or.inl ⟨by rfl, ?hhtf14⟩) (by assumption) ?rrtf14
              case hhtf14 => (intro wz9 hSw; (try dsimp only at hSw); go_simp; try with_reducible rfl)
              go_simp
              refine wpAnyH_done (by kernel_rfl) ?_ _
              have hBt := HBc.out.kept hHeld (fun f => f)
              have y1t := hBt.cell 1
              simp at y1t
              have lyt := hBt.lt
              have hkT := hkc.trans hHeld
              have HSt := Lib.hid (HSc.out.kept hHeld)
              rcases (show s = 2 ∨ s = 3 ∨ s = 4 from by omega) with rfl | rfl | rfl
              · skip
                have hM2 : M = putR L id (some ⟨id, 2 + 1, 0⟩) := by have := HM.out; rw [show folZ (2 + 3) false = 2 + 1 from rfl, if_neg (by decide)] at this; exact this
                have hinv := HSc.out.inv.on HO.out (by omega) (by omega)
                rw [← hM2] at hinv
                have hml : M.length = n := by have h1 := hinv.len; have h2 := HNL.out; omega
                have HF := Lib.hid (And.intro hinv hml)
                simp only [hml]
                clear hM2 hinv hml
                go_wp2
                go_roundw
                case rel => first | exact ⟨j + 1, n, cm, c8, am, _, M, NL, by go_num, rfl, rfl, by omega, by omega, by omega, Lib.hid ⟨HF.out.1, HF.out.2, htm, HSt.out.now, HSt.out.nil, HSt.out.cap⟩, hkT⟩ | ((repeat apply Exists.intro); exact ⟨⟨j + 1, n, cm, c8, am, _, M, NL, by go_num, rfl, rfl, by omega, by omega, by omega, Lib.hid ⟨HF.out.1, HF.out.2, htm, HSt.out.now, HSt.out.nil, HSt.out.cap⟩, hkT⟩, rfl⟩)
                case measure => simp [intOf]; omega
              · skip
                have hM2 : M = putR L id (some ⟨id, 3 + 1, 0⟩) := by have := HM.out; rw [show folZ (3 + 3) false = 3 + 1 from rfl, if_neg (by decide)] at this; exact this
                have hinv := HSc.out.inv.on HO.out (by omega) (by omega)
                rw [← hM2] at hinv
                have hml : M.length = n := by have h1 := hinv.len; have h2 := HNL.out; omega
                have HF := Lib.hid (And.intro hinv hml)
                simp only [hml]
                clear hM2 hinv hml
                go_wp2
                go_roundw
                case rel => first | exact ⟨j + 1, n, cm, c8, am, _, M, NL, by go_num, rfl, rfl, by omega, by omega, by omega, Lib.hid ⟨HF.out.1, HF.out.2, htm, HSt.out.now, HSt.out.nil, HSt.out.cap⟩, hkT⟩ | ((repeat apply Exists.intro); exact ⟨⟨j + 1, n, cm, c8, am, _, M, NL, by go_num, rfl, rfl, by omega, by omega, by omega, Lib.hid ⟨HF.out.1, HF.out.2, htm, HSt.out.now, HSt.out.nil, HSt.out.cap⟩, hkT⟩, rfl⟩)
                case measure => simp [intOf]; omega
              · skip
                have hM2 : M = putR L id none := by have := HM.out; rw [show folZ (4 + 3) false = 0 from rfl, if_pos rfl] at this; exact this
                have hinv := RInv.off (P := NL.take k) (S := NL.drop (k + 1)) (by rw [← HSP.out]; exact HSc.out.inv) HO.out
                rw [← hM2] at hinv
                have hml : M.length = k + (n - (k + 1)) := by have h1 := hinv.len; have h2 := HNL.out; rw [List.length_append, List.length_take, List.length_drop] at h1; omega
                have HF := Lib.hid (And.intro hinv hml)
                simp only [hml]
                clear hM2 hinv hml
                have hc8 := HSt.out.cap
                have hkc8 : k ≤ c8 := by omega
                have hk1c8 : (k : Int) + 1 ≤ (c8 : Int) := by omega
                have hk1n : (k : Int) + 1 ≤ (n : Int) := by omega
                obtain ⟨AD, hAD⟩ : ∃ AD : Addr, AD = if c8 = k + 1 then ⟨b8, off8, none⟩ else ⟨b8, off8 + (k + 1), none⟩ := ⟨_, rfl⟩
                have HAD := Lib.hid hAD
                clear hAD
                go_wp2
                refine wp_region_held_drew (S := (fun wx => Kept No wt wx)) (by kernel_rfl) ?_ (fun hHeld => ?_)
                · exact (Kept.refl No wt).drew
                refine wpAnyH_take (i := 1) (v := (.slice (some ⟨b8, off8, none⟩) n c8)) rfl (by kernel_rfl) (by kernel_rfl) (by kernel_rfl) (fun _ _ _ h => h) (Or.inl ⟨by rfl, ?hhruf41⟩) (by assumption) ?rrruf41
                case hhruf41 => (intro wz9 hSw; (try dsimp only at hSw); go_simp; try with_reducible rfl)
                go_simp
                refine wpAnyH_take (i := 2) (v := (.int .i64 (k : Int))) rfl (by kernel_rfl) (by kernel_rfl) (by kernel_rfl) (fun _ _ _ h => h) (Or.inl ⟨by rfl, ?hhruf42⟩) (by assumption) ?rrruf42
                case hhruf42 => (intro wz9 hSw; (try dsimp only at hSw); go_simp; try with_reducible rfl)
                go_simp
                refine wpAnyH_take (i := 3) (v := (.slice (some ⟨b8, off8, none⟩) k c8)) rfl (by kernel_rfl) (by kernel_rfl) (by kernel_rfl) (fun _ _ _ h => h) (Or.inl ⟨by rfl, ?hhruf43⟩) (by assumption) ?rrruf43
                case hhruf43 => (intro wz9 hSw; (try dsimp only at hSw); go_simp; try with_reducible rfl)
                go_simp
                refine wpAnyH_take (i := 5) (v := (.slice (some ⟨b8, off8, none⟩) n c8)) rfl (by kernel_rfl) (by kernel_rfl) (by kernel_rfl) (fun _ _ _ h => h) (Or.inl ⟨by rfl, ?hhruf45⟩) (by assumption) ?rrruf45
                case hhruf45 => (intro wz9 hSw; (try dsimp only at hSw); go_simp; try with_reducible rfl)
                go_simp
                refine wpAnyH_take (i := 6) (v := (.int .i64 (k : Int))) rfl (by kernel_rfl) (by kernel_rfl) (by kernel_rfl) (fun _ _ _ h => h) (Or.inl ⟨by rfl, ?hhruf46⟩) (by assumption) ?rrruf46
                case hhruf46 => (intro wz9 hSw; (try dsimp only at hSw); go_simp; try with_reducible rfl)
                go_simp
                refine wpAnyH_take (i := 7) (v := (.int .i64 ((k : Int) + 1))) rfl (by kernel_rfl) (by kernel_rfl) (by kernel_rfl) (fun _ _ _ h => h) (Or.inl ⟨by rfl, ?hhruf47⟩) (by assumption) ?rrruf47
                case hhruf47 => (intro wz9 hSw; clear hSw; go_simp; first | done | (rw [IntKind.wrap_i64]; omega))
                go_simp
                refine wpAnyH_take (i := 8) (v := (.slice (some AD) (n - (k + 1)) (c8 - (k + 1)))) rfl (by kernel_rfl) (by kernel_rfl) (by kernel_rfl) (fun _ _ _ h => h) (Or.inl ⟨by rfl, ?hhruf48⟩) (by assumption) ?rrruf48
                case hhruf48 => (intro wz9 hSw; clear hSw; go_simp; first | (rw [if_pos (by omega)]; rw [HAD.out]; split <;> rfl) | (rw [if_pos ⟨by omega, by omega⟩]; rw [HAD.out]; split <;> rfl) | (rw [HAD.out]; split <;> rfl) | trace_state)
                go_simp
                refine wpAnyH_ready (rs := [0]) (by kernel_rfl) (by simp) ?_
                refine AllReadyH.cons rfl (fun K9 hK9 => ?_) AllReadyH.nil
                go_simp
                have hown0 : ((wt.alloc (.cells #[] 30)).drew).ownsRow wt.heap.size 30 1 (.slice (some ⟨wt.heap.size, 0, none⟩) 0 0) 0 [] := own_empty wt _ _ (Nat.le_refl _)
                have hk5 : Kept No wt ((wt.alloc (.cells #[] 30)).drew) := ((Kept.refl No wt).alloc _).drew
                have hs5 := hk5.size
                obtain ⟨g5, hg5⟩ : ∃ g, g = wt.heap.size := ⟨_, rfl⟩
                rw [← hg5] at hown0
                rw [← hg5]
                have hbase5 : g5 ≤ ((wt.alloc (.cells #[] 30)).drew).heap.size := by rw [hg5]; exact hs5
                have HG5 := Lib.hid hg5
                clear hg5
                generalize ((wt.alloc (.cells #[] 30)).drew) = w5 at *
                refine hK9.out _ _ ?_ (fun hHeld2 => ?_)
                · exact hk5
                clear hK9 K9 hHeld2
                refine wpAnyH_ready (rs := [4]) (by kernel_rfl) (by simp) ?_
                refine AllReadyH.cons rfl (fun K9 hK9 => ?_) AllReadyH.nil
                have hrt := (HSt.out.now.keptNo hk5).take k
                have hlt9 : (NC (NL.take k)).length = k * 1 := by rw [NC_length, List.length_take]; have := HNL.out; omega
                have hcl1 : ∀ j u, (NC (NL.take k))[j]? = some u → w5.cell? ((⟨b8, off8, none⟩ : Addr).add j) = some u := by have := hrt.at_add _ rfl; rwa [show (NC NL).take k = NC (NL.take k) by simp [NC, List.map_take]] at this
                obtain ⟨v6, w6, hrun6, hown6, hg6, _⟩ := run_append_own (P := Try.prog) w5 g5 45 45 30 i0 _ 1 2 Try.underlying45 hi hz0 hz1 hz2 rfl (by decide) _ _ _ hown0 ⟨b8, off8, none⟩ k c8 (NC (NL.take k)) hlt9 hcl1 (NC_one _) (by unfold maxLen; omega) (by omega) hbase5
                have hk6 : Kept No wt w6 := hk5.grown hg6 (fun q hq => .inl (by have := (hown0.lt q hq).1; have := HG5.out; omega))
                refine op_appendN (.tmp 158) (.tmp 161) 45 rfl rfl rfl hrun6 ?_
                refine hK9.out _ _ ?_ (fun hHeld2 => ?_)
                · exact hk6
                clear hK9 K9 hHeld2
                go_simp
                refine wpAnyH_ready (rs := [9]) (by kernel_rfl) (by simp) ?_
                refine AllReadyH.cons rfl (fun K9 hK9 => ?_) AllReadyH.nil
                have hrd : Row w6 (some AD) ((NC NL).drop (k + 1)) := by have h1 := (HSt.out.now.keptNo hk6).drop (k := k + 1) (cap := c8) (by rw [NC_length]; have := HNL.out; omega); rw [HAD.out]; split at h1 <;> (rename_i h2; simp only [h2, if_true, if_false] at h1 ⊢; first | exact h1 | simpa [Addr.add] using h1)
                have hld9 : (NC (NL.drop (k + 1))).length = (n - (k + 1)) * 1 := by rw [NC_length, List.length_drop]; have := HNL.out; omega
                have hcl2 : ∀ j u, (NC (NL.drop (k + 1)))[j]? = some u → w6.cell? (AD.add j) = some u := by have := hrd.at_add _ rfl; rwa [show (NC NL).drop (k + 1) = NC (NL.drop (k + 1)) by simp [NC, List.map_drop]] at this
                obtain ⟨v7, w7, hrun7, hown7, hg7, _⟩ := run_append_own (P := Try.prog) w6 g5 45 45 30 i0 _ 1 2 Try.underlying45 hi hz0 hz1 hz2 rfl (by decide) _ _ _ hown6 AD (n - (k + 1)) (c8 - (k + 1)) (NC (NL.drop (k + 1))) hld9 hcl2 (NC_one _) (by unfold maxLen; omega) (by omega) (by have := HG5.out; have := hk6.size; omega)
                have hk7 : Kept No wt w7 := hk6.grown hg7 (fun q hq => .inl (by have := (hown6.lt q hq).1; have := HG5.out; omega))
                refine op_appendN (.tmp 162) (.tmp 166) 45 rfl rfl rfl hrun7 ?_
                refine hK9.out _ _ ?_ (fun hHeld2 => ?_)
                · exact hk7
                clear hK9 K9
                go_simp
                refine wpAnyH_take (i := 10) (v := v7) rfl (by kernel_rfl) (by kernel_rfl) (by kernel_rfl) (fun _ _ _ h => h) (Or.inl ⟨by rfl, ?hhvruf4⟩) (by assumption) ?rrvruf4
                case hhvruf4 => (intro wz9 hSw; (try dsimp only at hSw); go_simp; try with_reducible rfl)
                go_simp
                refine wpAnyH_done (by kernel_rfl) ?_ _
                obtain ⟨a9, c9, h9, hr9, hn9⟩ := own_form hown7
                have hcap9 : 0 + k + (n - (k + 1)) ≤ c9 := by rw [h9] at hown7; exact own_cap hown7
                subst h9
                have hr9b : Row w7 a9 (NC (NL.take k ++ NL.drop (k + 1))) := by rw [NC_append]; simpa using hr9
                go_wp2
                go_roundw
                case rel =>
                  refine ⟨j + 1, k + (n - (k + 1)), cm, c9, am, a9, M, NL.take k ++ NL.drop (k + 1), ?_, ?_, ?_, ?_, ?_, ?_, ?_, ?_⟩
                  · go_num
                  · first | rfl | trace_state
                  · first | rfl | (simp; done) | trace_state
                  · omega
                  · omega
                  · omega
                  · exact Lib.hid ⟨HF.out.1, HF.out.2, htm.keptNo hk7, hr9b, (fun h => by have := hn9 h; omega), (by omega)⟩
                  · exact hkT.trans hk7
                case measure => simp [intOf]; omega
      · skip
        have WAY := Lib.hid (turn_way HO.out hs2 hs4 false)
        have CT := Lib.hid (fun wx (hk9 : Kept No wc wx) (k9 : Int) M z m hM hm => turn_num a1 c L n k9 id false wx (HSc.out.tab.keptNo hk9) HSc.out.inv.right HLl.out HSc.out.len M z m hM hm)
        go_wp2
        go_loopw [16] (fun v wy => ∃ k9 : Nat, v = .int .i64 k9 ∧ 4 ≤ k9 ∧ k9 ≤ 12 ∧ Kept No wc wy) (fun v _ => 12 - (intOf v).toNat)
        case atStart => exact ⟨4, rfl, by omega, by omega, Kept.refl _ _⟩
        case round =>
          obtain ⟨k9, rfl, h4, h12, hky⟩ := hrel
          have hBy := HBc.out.kept hky (fun f => f)
          have ly := hBy.lt
          have q8y := (hky.cell (p := ⟨b8, off8 + k, none⟩) HB8c.out (fun f => f)).trans HQ8c.out
          have hb8y := Nat.lt_of_lt_of_le HB8c.out hky.size
          by_cases h11 : k9 ≤ 11
          · have h11I : (k9 : Int) ≤ 11 := by omega
            obtain ⟨M, z, hM⟩ : ∃ M z, turnR L k9 id false 0 = (M, z) := ⟨_, _, rfl⟩
            have hway : decide (z = 0) = decide ((k9 : Int) = s + 3) := by have := WAY.out k9 h4 h11; rwa [hM] at this
            have CTk := Lib.hid (CT.out _ hky _ M z M.length hM rfl)
            by_cases hz : z = 0
            · have he : (k9 : Int) = s + 3 := by rw [decide_eq_true hz] at hway; exact of_decide_eq_true hway.symm
              have heI : ((k9 : Int) == s + 3) = true := by simpa using he
              subst hz
              clear he hway hM
              go_wp2_with (go_at_call 14; refine CTk.out.mono ?_; rintro e wz ⟨am, cm, rfl, htm, hkz⟩; have y1z := (hBy.kept hkz (fun f => f)).cell 1; simp at y1z; have lyz := (hBy.kept hkz (fun f => f)).lt)
              go_roundw
              case rel => exact ⟨k9 + 1, by go_num, by omega, by omega, hky.trans hkz⟩
              case measure => simp [intOf]; omega
            · have he : ¬ (k9 : Int) = s + 3 := by rw [decide_eq_false hz] at hway; exact of_decide_eq_false hway.symm
              have heI : ((k9 : Int) == s + 3) = false := by simpa using he
              have hzI : (z == 0) = false := by simpa using hz
              clear he hway hM hz
              go_wp2_with (go_at_call 14; refine CTk.out.mono ?_; rintro e wz ⟨am, cm, rfl, htm, hkz⟩; have y1z := (hBy.kept hkz (fun f => f)).cell 1; simp at y1z; have lyz := (hBy.kept hkz (fun f => f)).lt)
              go_roundw
              case rel => exact ⟨k9 + 1, by go_num, by omega, by omega, hky.trans hkz⟩
              case measure => simp [intOf]; omega
          · have h11I : ¬ (k9 : Int) ≤ 11 := by omega
            have hta := turn_at HO.out hs2 hs4 false
            obtain ⟨M, hM⟩ : ∃ M, M = putR L id (if folZ (s + 3) false = 0 then none else some ⟨id, folZ (s + 3) false, 0⟩) := ⟨_, rfl⟩
            rw [← hM] at hta
            have HM := Lib.hid hM
            have CTL := Lib.hid (fun wx hk9 => CT.out wx hk9 (s + 3) M 0 M.length hta rfl)
            clear hta hM
            go_wp2
            refine wp_region_held_drew (S := (fun wx => Kept No wc wx)) (by kernel_rfl) ?_ (fun hHeld => ?_)
            · exact hky.drew
            refine wpAnyH_take (i := 0) (v := (.slice a1 n c)) rfl (by kernel_rfl) (by kernel_rfl) (by kernel_rfl) (fun _ _ _ h => h) (Or.inl ⟨by rfl, ?hhrtn0⟩) (by assumption) ?rrrtn0
            case hhrtn0 => (intro wz9 hSw; (try dsimp only at hSw); go_simp; try with_reducible rfl)
            go_simp
            refine wpAnyH_take (i := 1) (v := (.pointer (some ⟨g, 1, none⟩))) rfl (by kernel_rfl) (by kernel_rfl) (by kernel_rfl) (fun _ _ _ h => h) (Or.inl ⟨by rfl, ?hhrtn1⟩) (by assumption) ?rrrtn1
            case hhrtn1 => (intro wz9 hSw; (try dsimp only at hSw); go_simp; try with_reducible rfl)
            go_simp
            refine wpAnyH_take (i := 2) (v := (.int .i64 s)) rfl (by kernel_rfl) (by kernel_rfl) (by kernel_rfl) (fun _ _ _ h => h) (Or.inl ⟨by rfl, ?hhrtn2⟩) (by assumption) ?rrrtn2
            case hhrtn2 => (intro wz9 hSw; have z0 := (HBc.out.kept hSw (fun f => f)).cell 1; simp at z0; clear hSw; go_simp; try with_reducible rfl)
            go_simp
            refine wpAnyH_take (i := 3) (v := (.int .i64 (s + 3))) rfl (by kernel_rfl) (by kernel_rfl) (by kernel_rfl) (fun _ _ _ h => h) (Or.inl ⟨by rfl, ?hhrtn3⟩) (by assumption) ?rrrtn3
            case hhrtn3 => (intro wz9 hSw; clear hSw; go_simp; first | done | (rw [IntKind.wrap_i64]; omega))
            go_simp
            refine wpAnyH_take (i := 4) (v := (.slice (some ⟨b8, off8, none⟩) n c8)) rfl (by kernel_rfl) (by kernel_rfl) (by kernel_rfl) (fun _ _ _ h => h) (Or.inl ⟨by rfl, ?hhrtn4⟩) (by assumption) ?rrrtn4
            case hhrtn4 => (intro wz9 hSw; (try dsimp only at hSw); go_simp; try with_reducible rfl)
            go_simp
            refine wpAnyH_take (i := 5) (v := (.int .i64 (k : Int))) rfl (by kernel_rfl) (by kernel_rfl) (by kernel_rfl) (fun _ _ _ h => h) (Or.inl ⟨by rfl, ?hhrtn5⟩) (by assumption) ?rrrtn5
            case hhrtn5 => (intro wz9 hSw; (try dsimp only at hSw); go_simp; try with_reducible rfl)
            go_simp
            refine wpAnyH_take (i := 6) (v := (.pointer (some ⟨b8, off8 + k, none⟩))) rfl (by kernel_rfl) (by kernel_rfl) (by kernel_rfl) (fun _ _ _ h => h) (Or.inl ⟨by rfl, ?hhrtn6⟩) (by assumption) ?rrrtn6
            case hhrtn6 => (intro wz9 hSw; (try dsimp only at hSw); go_simp; try with_reducible rfl)
            go_simp
            refine wpAnyH_take (i := 7) (v := (.int .u16 (id : Int))) rfl (by kernel_rfl) (by kernel_rfl) (by kernel_rfl) (fun _ _ _ h => h) (Or.inl ⟨by rfl, ?hhrtn7⟩) (by assumption) ?rrrtn7
            case hhrtn7 => (intro wz9 hSw; have z0 := (hSw.cell (p := ⟨b8, off8 + k, none⟩) HB8c.out (fun f => f)).trans HQ8c.out; clear hSw; go_simp; try with_reducible rfl)
            go_simp
            refine wpAnyH_take (i := 8) (v := (.bool false)) rfl (by kernel_rfl) (by kernel_rfl) (by kernel_rfl) (fun _ _ _ h => h) (Or.inl ⟨by rfl, ?hhrtn8⟩) (by assumption) ?rrrtn8
            case hhrtn8 => (intro wz9 hSw; (try dsimp only at hSw); go_simp; try with_reducible rfl)
            go_simp
            refine wpAnyH_ready (rs := [9]) (by kernel_rfl) (by simp) ?_
            refine AllReadyH.cons rfl (fun K9 hK9 => ?_) AllReadyH.nil
            go_simp
            go_wp2_with (go_at_call 14; refine (CTL.out _ hHeld).mono ?_; rintro e wt ⟨am, cm, rfl, htm, hkt⟩)
            have hHn := hHeld.trans hkt
            refine hK9.out _ _ ?_ (fun hHeld2 => ?_)
            · exact hHn
            clear hK9 K9 hHeld hHeld2
            have hHeld := hHn
            clear hHn
            go_simp
            refine wpAnyH_take (i := 10) (v := (.tuple #[.slice am M.length cm, .int .i64 0])) rfl (by kernel_rfl) (by kernel_rfl) (by kernel_rfl) (fun _ _ _ h => h) (Or.inl ⟨by rfl, ?hhtn10⟩) (by assumption) ?rrtn10
            case hhtn10 => (intro wz9 hSw; (try dsimp only at hSw); go_simp; try with_reducible rfl)
            go_simp
            refine wpAnyH_take (i := 11) (v := (.slice am M.length cm)) rfl (by kernel_rfl) (by kernel_rfl) (by kernel_rfl) (fun _ _ _ h => h) (Or.inl ⟨by rfl, ?hhtn11⟩) (by assumption) ?rrtn11
            case hhtn11 => (intro wz9 hSw; (try dsimp only at hSw); go_simp; try with_reducible rfl)
            go_simp
            refine wpAnyH_take (i := 12) (v := (.int .i64 0)) rfl (by kernel_rfl) (by kernel_rfl) (by kernel_rfl) (fun _ _ _ h => h) (Or.inl ⟨by rfl, ?hhtn12⟩) (by assumption) ?rrtn12
            case hhtn12 => (intro wz9 hSw; (try dsimp only at hSw); go_simp; try with_reducible rfl)
            go_simp
            refine wpAnyH_take (i := 13) (v := (.slice am M.length cm)) rfl (by kernel_rfl) (by kernel_rfl) (by kernel_rfl) (fun _ _ _ h => h) (Or.inl ⟨by rfl, ?hhtn13⟩) (by assumption) ?rrtn13
            case hhtn13 => (intro wz9 hSw; (try dsimp only at hSw); go_simp; try with_reducible rfl)
            go_simp
            refine wpAnyH_take (i := 14) (v := (.int .i64 0)) rfl (by kernel_rfl) (by kernel_rfl) (by kernel_rfl) (fun _ _ _ h => h) (Or.inl ⟨by rfl, ?hhtn14⟩) (by assumption) ?rrtn14
            case hhtn14 => (intro wz9 hSw; (try dsimp only at hSw); go_simp; try with_reducible rfl)
            go_simp
            refine wpAnyH_done (by kernel_rfl) ?_ _
            have hBt := HBc.out.kept hHeld (fun f => f)
            have y1t := hBt.cell 1
            simp at y1t
            have lyt := hBt.lt
            have hkT := hkc.trans hHeld
            have HSt := Lib.hid (HSc.out.kept hHeld)
            rcases (show s = 2 ∨ s = 3 ∨ s = 4 from by omega) with rfl | rfl | rfl
            · skip
              have hM2 : M = putR L id (some ⟨id, 2 + 1, 0⟩) := by have := HM.out; rw [show folZ (2 + 3) false = 2 + 1 from rfl, if_neg (by decide)] at this; exact this
              have hinv := HSc.out.inv.on HO.out (by omega) (by omega)
              rw [← hM2] at hinv
              have hml : M.length = n := by have h1 := hinv.len; have h2 := HNL.out; omega
              have HF := Lib.hid (And.intro hinv hml)
              simp only [hml]
              clear hM2 hinv hml
              go_wp2
              go_roundw
              case rel => first | exact ⟨j + 1, n, cm, c8, am, _, M, NL, by go_num, rfl, rfl, by omega, by omega, by omega, Lib.hid ⟨HF.out.1, HF.out.2, htm, HSt.out.now, HSt.out.nil, HSt.out.cap⟩, hkT⟩ | ((repeat apply Exists.intro); exact ⟨⟨j + 1, n, cm, c8, am, _, M, NL, by go_num, rfl, rfl, by omega, by omega, by omega, Lib.hid ⟨HF.out.1, HF.out.2, htm, HSt.out.now, HSt.out.nil, HSt.out.cap⟩, hkT⟩, rfl⟩)
              case measure => simp [intOf]; omega
            · skip
              have hM2 : M = putR L id (some ⟨id, 3 + 1, 0⟩) := by have := HM.out; rw [show folZ (3 + 3) false = 3 + 1 from rfl, if_neg (by decide)] at this; exact this
              have hinv := HSc.out.inv.on HO.out (by omega) (by omega)
              rw [← hM2] at hinv
              have hml : M.length = n := by have h1 := hinv.len; have h2 := HNL.out; omega
              have HF := Lib.hid (And.intro hinv hml)
              simp only [hml]
              clear hM2 hinv hml
              go_wp2
              go_roundw
              case rel => first | exact ⟨j + 1, n, cm, c8, am, _, M, NL, by go_num, rfl, rfl, by omega, by omega, by omega, Lib.hid ⟨HF.out.1, HF.out.2, htm, HSt.out.now, HSt.out.nil, HSt.out.cap⟩, hkT⟩ | ((repeat apply Exists.intro); exact ⟨⟨j + 1, n, cm, c8, am, _, M, NL, by go_num, rfl, rfl, by omega, by omega, by omega, Lib.hid ⟨HF.out.1, HF.out.2, htm, HSt.out.now, HSt.out.nil, HSt.out.cap⟩, hkT⟩, rfl⟩)
              case measure => simp [intOf]; omega
            · skip
              have hM2 : M = putR L id none := by have := HM.out; rw [show folZ (4 + 3) false = 0 from rfl, if_pos rfl] at this; exact this
              have hinv := RInv.off (P := NL.take k) (S := NL.drop (k + 1)) (by rw [← HSP.out]; exact HSc.out.inv) HO.out
              rw [← hM2] at hinv
              have hml : M.length = k + (n - (k + 1)) := by have h1 := hinv.len; have h2 := HNL.out; rw [List.length_append, List.length_take, List.length_drop] at h1; omega
              have HF := Lib.hid (And.intro hinv hml)
              simp only [hml]
              clear hM2 hinv hml
              have hc8 := HSt.out.cap
              have hkc8 : k ≤ c8 := by omega
              have hk1c8 : (k : Int) + 1 ≤ (c8 : Int) := by omega
              have hk1n : (k : Int) + 1 ≤ (n : Int) := by omega
              obtain ⟨AD, hAD⟩ : ∃ AD : Addr, AD = if c8 = k + 1 then ⟨b8, off8, none⟩ else ⟨b8, off8 + (k + 1), none⟩ := ⟨_, rfl⟩
              have HAD := Lib.hid hAD
              clear hAD
              go_wp2
              refine wp_region_held_drew (S := (fun wx => Kept No wt wx)) (by kernel_rfl) ?_ (fun hHeld => ?_)
              · exact (Kept.refl No wt).drew
              refine wpAnyH_take (i := 1) (v := (.slice (some ⟨b8, off8, none⟩) n c8)) rfl (by kernel_rfl) (by kernel_rfl) (by kernel_rfl) (fun _ _ _ h => h) (Or.inl ⟨by rfl, ?hhrun41⟩) (by assumption) ?rrrun41
              case hhrun41 => (intro wz9 hSw; (try dsimp only at hSw); go_simp; try with_reducible rfl)
              go_simp
              refine wpAnyH_take (i := 2) (v := (.int .i64 (k : Int))) rfl (by kernel_rfl) (by kernel_rfl) (by kernel_rfl) (fun _ _ _ h => h) (Or.inl ⟨by rfl, ?hhrun42⟩) (by assumption) ?rrrun42
              case hhrun42 => (intro wz9 hSw; (try dsimp only at hSw); go_simp; try with_reducible rfl)
              go_simp
              refine wpAnyH_take (i := 3) (v := (.slice (some ⟨b8, off8, none⟩) k c8)) rfl (by kernel_rfl) (by kernel_rfl) (by kernel_rfl) (fun _ _ _ h => h) (Or.inl ⟨by rfl, ?hhrun43⟩) (by assumption) ?rrrun43
              case hhrun43 => (intro wz9 hSw; (try dsimp only at hSw); go_simp; try with_reducible rfl)
              go_simp
              refine wpAnyH_take (i := 5) (v := (.slice (some ⟨b8, off8, none⟩) n c8)) rfl (by kernel_rfl) (by kernel_rfl) (by kernel_rfl) (fun _ _ _ h => h) (Or.inl ⟨by rfl, ?hhrun45⟩) (by assumption) ?rrrun45
              case hhrun45 => (intro wz9 hSw; (try dsimp only at hSw); go_simp; try with_reducible rfl)
              go_simp
              refine wpAnyH_take (i := 6) (v := (.int .i64 (k : Int))) rfl (by kernel_rfl) (by kernel_rfl) (by kernel_rfl) (fun _ _ _ h => h) (Or.inl ⟨by rfl, ?hhrun46⟩) (by assumption) ?rrrun46
              case hhrun46 => (intro wz9 hSw; (try dsimp only at hSw); go_simp; try with_reducible rfl)
              go_simp
              refine wpAnyH_take (i := 7) (v := (.int .i64 ((k : Int) + 1))) rfl (by kernel_rfl) (by kernel_rfl) (by kernel_rfl) (fun _ _ _ h => h) (Or.inl ⟨by rfl, ?hhrun47⟩) (by assumption) ?rrrun47
              case hhrun47 => (intro wz9 hSw; clear hSw; go_simp; first | done | (rw [IntKind.wrap_i64]; omega))
              go_simp
              refine wpAnyH_take (i := 8) (v := (.slice (some AD) (n - (k + 1)) (c8 - (k + 1)))) rfl (by kernel_rfl) (by kernel_rfl) (by kernel_rfl) (fun _ _ _ h => h) (Or.inl ⟨by rfl, ?hhrun48⟩) (by assumption) ?rrrun48
              case hhrun48 => (intro wz9 hSw; clear hSw; go_simp; first | (rw [if_pos (by omega)]; rw [HAD.out]; split <;> rfl) | (rw [if_pos ⟨by omega, by omega⟩]; rw [HAD.out]; split <;> rfl) | (rw [HAD.out]; split <;> rfl) | trace_state)
              go_simp
              refine wpAnyH_ready (rs := [0]) (by kernel_rfl) (by simp) ?_
              refine AllReadyH.cons rfl (fun K9 hK9 => ?_) AllReadyH.nil
              go_simp
              have hown0 : ((wt.alloc (.cells #[] 30)).drew).ownsRow wt.heap.size 30 1 (.slice (some ⟨wt.heap.size, 0, none⟩) 0 0) 0 [] := own_empty wt _ _ (Nat.le_refl _)
              have hk5 : Kept No wt ((wt.alloc (.cells #[] 30)).drew) := ((Kept.refl No wt).alloc _).drew
              have hs5 := hk5.size
              obtain ⟨g5, hg5⟩ : ∃ g, g = wt.heap.size := ⟨_, rfl⟩
              rw [← hg5] at hown0
              rw [← hg5]
              have hbase5 : g5 ≤ ((wt.alloc (.cells #[] 30)).drew).heap.size := by rw [hg5]; exact hs5
              have HG5 := Lib.hid hg5
              clear hg5
              generalize ((wt.alloc (.cells #[] 30)).drew) = w5 at *
              refine hK9.out _ _ ?_ (fun hHeld2 => ?_)
              · exact hk5
              clear hK9 K9 hHeld2
              refine wpAnyH_ready (rs := [4]) (by kernel_rfl) (by simp) ?_
              refine AllReadyH.cons rfl (fun K9 hK9 => ?_) AllReadyH.nil
              have hrt := (HSt.out.now.keptNo hk5).take k
              have hlt9 : (NC (NL.take k)).length = k * 1 := by rw [NC_length, List.length_take]; have := HNL.out; omega
              have hcl1 : ∀ j u, (NC (NL.take k))[j]? = some u → w5.cell? ((⟨b8, off8, none⟩ : Addr).add j) = some u := by have := hrt.at_add _ rfl; rwa [show (NC NL).take k = NC (NL.take k) by simp [NC, List.map_take]] at this
              obtain ⟨v6, w6, hrun6, hown6, hg6, _⟩ := run_append_own (P := Try.prog) w5 g5 45 45 30 i0 _ 1 2 Try.underlying45 hi hz0 hz1 hz2 rfl (by decide) _ _ _ hown0 ⟨b8, off8, none⟩ k c8 (NC (NL.take k)) hlt9 hcl1 (NC_one _) (by unfold maxLen; omega) (by omega) hbase5
              have hk6 : Kept No wt w6 := hk5.grown hg6 (fun q hq => .inl (by have := (hown0.lt q hq).1; have := HG5.out; omega))
              refine op_appendN (.tmp 158) (.tmp 161) 45 rfl rfl rfl hrun6 ?_
              refine hK9.out _ _ ?_ (fun hHeld2 => ?_)
              · exact hk6
              clear hK9 K9 hHeld2
              go_simp
              refine wpAnyH_ready (rs := [9]) (by kernel_rfl) (by simp) ?_
              refine AllReadyH.cons rfl (fun K9 hK9 => ?_) AllReadyH.nil
              have hrd : Row w6 (some AD) ((NC NL).drop (k + 1)) := by have h1 := (HSt.out.now.keptNo hk6).drop (k := k + 1) (cap := c8) (by rw [NC_length]; have := HNL.out; omega); rw [HAD.out]; split at h1 <;> (rename_i h2; simp only [h2, if_true, if_false] at h1 ⊢; first | exact h1 | simpa [Addr.add] using h1)
              have hld9 : (NC (NL.drop (k + 1))).length = (n - (k + 1)) * 1 := by rw [NC_length, List.length_drop]; have := HNL.out; omega
              have hcl2 : ∀ j u, (NC (NL.drop (k + 1)))[j]? = some u → w6.cell? (AD.add j) = some u := by have := hrd.at_add _ rfl; rwa [show (NC NL).drop (k + 1) = NC (NL.drop (k + 1)) by simp [NC, List.map_drop]] at this
              obtain ⟨v7, w7, hrun7, hown7, hg7, _⟩ := run_append_own (P := Try.prog) w6 g5 45 45 30 i0 _ 1 2 Try.underlying45 hi hz0 hz1 hz2 rfl (by decide) _ _ _ hown6 AD (n - (k + 1)) (c8 - (k + 1)) (NC (NL.drop (k + 1))) hld9 hcl2 (NC_one _) (by unfold maxLen; omega) (by omega) (by have := HG5.out; have := hk6.size; omega)
              have hk7 : Kept No wt w7 := hk6.grown hg7 (fun q hq => .inl (by have := (hown6.lt q hq).1; have := HG5.out; omega))
              refine op_appendN (.tmp 162) (.tmp 166) 45 rfl rfl rfl hrun7 ?_
              refine hK9.out _ _ ?_ (fun hHeld2 => ?_)
              · exact hk7
              clear hK9 K9
              go_simp
              refine wpAnyH_take (i := 10) (v := v7) rfl (by kernel_rfl) (by kernel_rfl) (by kernel_rfl) (fun _ _ _ h => h) (Or.inl ⟨by rfl, ?hhvrun4⟩) (by assumption) ?rrvrun4
              case hhvrun4 => (intro wz9 hSw; (try dsimp only at hSw); go_simp; try with_reducible rfl)
              go_simp
              refine wpAnyH_done (by kernel_rfl) ?_ _
              obtain ⟨a9, c9, h9, hr9, hn9⟩ := own_form hown7
              have hcap9 : 0 + k + (n - (k + 1)) ≤ c9 := by rw [h9] at hown7; exact own_cap hown7
              subst h9
              have hr9b : Row w7 a9 (NC (NL.take k ++ NL.drop (k + 1))) := by rw [NC_append]; simpa using hr9
              go_wp2
              go_roundw
              case rel =>
                refine ⟨j + 1, k + (n - (k + 1)), cm, c9, am, a9, M, NL.take k ++ NL.drop (k + 1), ?_, ?_, ?_, ?_, ?_, ?_, ?_, ?_⟩
                · go_num
                · first | rfl | trace_state
                · first | rfl | (simp; done) | trace_state
                · omega
                · omega
                · omega
                · exact Lib.hid ⟨HF.out.1, HF.out.2, htm.keptNo hk7, hr9b, (fun h => by have := hn9 h; omega), (by omega)⟩
                · exact hkT.trans hk7
              case measure => simp [intOf]; omega
    · rcases (show (j < OL.length ∧ (j : Int) < 60 ∧ n = 0) ∨ (j < OL.length ∧ ¬ (j : Int) < 60) ∨ ¬ j < OL.length from by omega) with ⟨h1, h2, rfl⟩ | ⟨h1, h2⟩ | h1
      · have CFL := Lib.hid (fun wx (hk9 : Kept No wr wx) => fly_num a1 c L 0 wx (HS.out.tab.row.keptNo hk9) (by have := HS.out.len; omega) HS.out.len HS.out.inv.right HS.out.inv.fly)
        go_wp2_with (first
          | (go_at_call 7; refine (HT.out _).mono ?_; rintro e w1 ⟨rfl, hk1⟩)
          | (go_at_call 17; refine (CFL.out _ hk1).mono ?_; rintro e w2 ⟨rfl, hk2⟩))
        go_ret
        exact ⟨rfl, HFIN.out _ ((hk.trans hk1).trans hk2)⟩
      · have CFL := Lib.hid (fun wx (hk9 : Kept No wr wx) => fly_num a1 c L n wx (HS.out.tab.row.keptNo hk9) (by have := HS.out.len; omega) HS.out.len HS.out.inv.right HS.out.inv.fly)
        go_wp2_with (first
          | (go_at_call 7; refine (HT.out _).mono ?_; rintro e w1 ⟨rfl, hk1⟩)
          | (go_at_call 17; refine (CFL.out _ hk1).mono ?_; rintro e w2 ⟨rfl, hk2⟩))
        go_ret
        exact ⟨rfl, HFIN.out _ ((hk.trans hk1).trans hk2)⟩
      · have CFL := Lib.hid (fun wx (hk9 : Kept No wr wx) => fly_num a1 c L n wx (HS.out.tab.row.keptNo hk9) (by have := HS.out.len; omega) HS.out.len HS.out.inv.right HS.out.inv.fly)
        go_wp2_with (first
          | (go_at_call 7; refine (HT.out _).mono ?_; rintro e w1 ⟨rfl, hk1⟩)
          | (go_at_call 17; refine (CFL.out _ hk1).mono ?_; rintro e w2 ⟨rfl, hk2⟩))
        go_ret
        exact ⟨rfl, HFIN.out _ ((hk.trans hk1).trans hk2)⟩

end Go.Proofs.Ytlgbljohhnhhkaa
