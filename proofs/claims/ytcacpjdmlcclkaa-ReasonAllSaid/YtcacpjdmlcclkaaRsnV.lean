/-
  The walk of ReasonAll (made by rsnall.py).
-/
import Derived.Test.YtcacpjdmlcclkaaRsnW
import Derived.Deep.RegionHeld3
import Derived.Lib.BufferRead
import Derived.IntWalk
namespace Go.Proofs.Ytcacpjdmlcclkaa
open Go.RowKit
set_option linter.unusedVariables false
set_option linter.unusedSimpArgs false

theorem row_strR {P : Program} {w : World} (src dst e : TypeId) (hs : P.underlying src = some (.slice e)) (he : P.underlying e = some (.int .u8)) (hd : P.underlying dst = some .string)
    {a : Option Addr} {l : List UInt8} (h : Row w a (B8 l)) (cap : Nat) (hn : a = none → cap = 0) : (convert src dst (.slice a l.length cap)).run P w = .ok (.string ⟨l.toArray⟩) w := by
  cases a with
  | none =>
    obtain rfl := hn rfl
    rcases h with h | ⟨b, off, h, _⟩
    · obtain rfl : l = [] := by cases l <;> simp_all [B8]
      exact Lib.run_convert_nil_bytes w src dst e 0 hs he hd
    · cases h
  | some ad => exact run_convert_bytes_back w src dst e ad cap l hs he hd fun j hj => h.at_add ad rfl j _ (B8_get l j hj)
theorem sl_of_own {w : World} {base : Nat} {v : Value} {l : List UInt8} (h : w.ownsRow base 5 1 v l.length (B8 l)) :
    ∃ a c, v = .slice a l.length c ∧ Row w a (B8 l) ∧ (a = none → c = 0) ∧ l.length ≤ c ∧ c ≤ maxLen := by
  rcases h.2 with ⟨hv, hn⟩ | ⟨g, cap, cur, hv, hb, hg, hle, hm, _⟩
  · obtain rfl : l = [] := List.eq_nil_of_length_eq_zero hn
    exact ⟨none, 0, hv, .nil _ _, fun _ => rfl, by simp, by simp [maxLen]⟩
  · subst hv
    exact ⟨_, cap, rfl, .of_own h, by simp, hle, hm⟩
theorem keepS {w w' w0 : World} {b o1 : Nat} {x : Value} (hk : Kept No w w') (h : w.cell? ⟨b, o1, none⟩ = some x ∧ Kept No w0 w) : w'.cell? ⟨b, o1, none⟩ = some x ∧ Kept No w0 w' := by
  refine ⟨(hk.cell (p := ⟨b, o1, none⟩) ?_ (fun f => f)).trans h.1, h.2.trans hk⟩
  rcases Nat.lt_or_ge b w.heap.size with hlt | hge
  · exact hlt
  · have := h.1; simp [World.cell?, Array.getElem?_eq_none hge] at this
theorem keepS2 {w w' w0 : World} {b o1 o2 : Nat} {x y : Value} (hk : Kept No w w') (h : w.cell? ⟨b, o1, none⟩ = some x ∧ w.cell? ⟨b, o2, none⟩ = some y ∧ Kept No w0 w) : w'.cell? ⟨b, o1, none⟩ = some x ∧ w'.cell? ⟨b, o2, none⟩ = some y ∧ Kept No w0 w' :=
  ⟨(keepS hk ⟨h.1, h.2.2⟩).1, (keepS hk ⟨h.2.1, h.2.2⟩).1, h.2.2.trans hk⟩
theorem getD_at (l : List UInt8) (i : Nat) (h : i < l.length) : l.getD i 0 = l[i] := by
  rw [List.getD_eq_getElem?_getD, List.getElem?_eq_getElem h]
  rfl
theorem bl_toNat (l : List Nat) (i : Nat) (h : i < l.length) (h2 : l[i] ≤ 162) (h3 : i < (bl l).length) : (bl l)[i].toNat = l[i] := by
  simp only [bl, List.getElem_map]
  exact UInt8.toNat_ofNat_of_lt' (show l[i] < 256 by omega)

set_option maxRecDepth 100000 in
set_option maxHeartbeats 1000000 in
theorem reasonAll_walk (v k : Int) (w : World) (w0 : (Lit.int .i64 v).wf = true) (w1 : (Lit.int .i64 k).wf = true) :
    Calls Try.prog 4 #[.int .i64 v, .int .i64 k] w fun e w' => e = .returned (.bool true) ∧ Below w.heap.size w w' := by
  have cA := fun wx => all_any v k wx
  have cB := fun wx => rall_any v k wx
  have hlen : (bl (allL (sp v k))).length ≤ 40 := by rw [show (bl (allL (sp v k))).length = (allL (sp v k)).length from by simp [bl]]; exact all_len v k
  have hknown : ∀ i (h : i < (bl (allL (sp v k))).length), ∀ wx, Calls Try.prog 6 #[.int .i64 v, .int .i64 k, .int .u8 ((bl (allL (sp v k)))[i].toNat)] wx fun e w' => e = .returned (.bool true) ∧ Kept No wx w' := by
    intro i h wx
    have h' : i < (allL (sp v k)).length := by simpa [bl] using h
    obtain ⟨q1, q2⟩ := all_known v k i h'
    have h3 := known_any v k (bl (allL (sp v k)))[i].toNat wx (byte_lt _)
    rw [bl_toNat _ i h' q2 h, q1] at h3
    rw [bl_toNat _ i h' q2 h]
    exact h3
  have hrise : ∀ i (h : i + 1 < (bl (allL (sp v k))).length), ((bl (allL (sp v k))).getD i 0).toNat < ((bl (allL (sp v k))).getD (i + 1) 0).toNat := by
    intro i h
    rw [getD_at _ i (by omega), getD_at _ (i + 1) h]
    have h' : i + 1 < (allL (sp v k)).length := by simpa [bl] using h
    rw [bl_toNat _ i (by omega) (all_known v k i (by omega)).2 (by omega), bl_toNat _ (i + 1) h' (all_known v k (i + 1) h').2 h]
    exact all_rise v k i h'
  generalize bl (allL (sp v k)) = L at *
  have HA := Lib.hid cA
  have HB := Lib.hid cB
  have HKN := Lib.hid hknown
  have HRI := Lib.hid hrise
  clear cA cB hknown hrise
  go_enter Try.func4, Try.ntmps4
  go_wp2_with (first
    | (go_at_call 10; refine (HA.out _).mono ?_; rintro e wa ⟨va, rfl, howna, hka⟩; obtain ⟨a, c, rfl, hra, hna, hca, hcma⟩ := sl_of_own howna)
    | (go_at_call 11; refine (HB.out _).mono ?_; rintro e wb ⟨vb, rfl, hownb, hkb⟩; obtain ⟨a', c', rfl, hrb, hnb, hcb, hcmb⟩ := sl_of_own hownb))
  have hra2 := hra.keptNo hkb
  have HNA := Lib.hid hna
  have HNB := Lib.hid hnb
  clear hra howna hownb hna hnb HA HB
  unfold maxLen at hcma hcmb
  have hk2 := hka.trans hkb
  go_loopw [7] (fun i wr => ∃ j : Nat, i = .int .i64 j ∧ j ≤ L.length ∧ Kept No wb wr) (fun i _ => L.length - (intOf i).toNat)
  case atStart => exact ⟨0, rfl, by omega, Kept.refl _ _⟩
  case round =>
    obtain ⟨j, rfl, hj, hk⟩ := hrel
    by_cases hlt : j < L.length
    · have hrow := hra2.keptNo hk
      obtain ⟨b, off, rfl, hb, hc1⟩ := hrow.at_ (k := j) (by simpa using hlt)
      have hx1 : (B8 L)[j]'(by simpa using hlt) = .int .u8 L[j].toNat := by simp [B8]
      rw [hx1] at hc1
      have HC := Lib.hid (HKN.out j hlt)
      cases j with
      | zero =>
        clear hx1
        generalize L[0].toNat = x1 at *
        have hH0 : wr.drew.cell? ⟨b, off + 0, none⟩ = some (.int .u8 x1) ∧ Kept No w wr.drew := ⟨hc1, (hk2.trans hk).drew⟩
        go_wp2_with fail
        refine wp_region_held_drew (S := (fun wx => wx.cell? ⟨b, off + 0, none⟩ = some (.int .u8 x1) ∧ Kept No w wx)) (by kernel_rfl) ?_ (fun hHeld => ?_)
        · exact hH0
        refine wpAnyH_take (i := 0) (v := ?vvp0) rfl (by kernel_rfl) (by kernel_rfl) (by kernel_rfl) (fun _ _ _ h => h) (Or.inl ⟨by rfl, ?hhp0⟩) (by assumption) ?rrp0
        case hhp0 => (intro wz9 hSw; (try dsimp only at hSw); go_simp; try with_reducible rfl)
        go_simp
        refine wpAnyH_take (i := 1) (v := (.bool false)) rfl (by kernel_rfl) (by kernel_rfl) (by kernel_rfl) (fun _ _ _ h => h) (Or.inl ⟨by rfl, ?hhp1⟩) (by assumption) ?rrp1
        case hhp1 => (intro wz9 hSw; (try dsimp only at hSw); go_simp; try with_reducible rfl)
        go_simp
        refine wpAnyH_take (i := 2) (v := (.bool false)) rfl (by kernel_rfl) (by kernel_rfl) (by kernel_rfl) (fun _ _ _ h => h) (Or.inl ⟨by rfl, ?hhp2⟩) (by assumption) ?rrp2
        case hhp2 => (intro wz9 hSw; (try dsimp only at hSw); go_simp; try with_reducible rfl)
        go_simp
        refine wpAnyH_take (i := 3) (v := undef) rfl (by kernel_rfl) (by kernel_rfl) (by kernel_rfl) (fun _ _ _ h => h) (Or.inr ⟨by rfl, rfl⟩) (by assumption) ?_
        go_simp
        refine wpAnyH_take (i := 4) (v := undef) rfl (by kernel_rfl) (by kernel_rfl) (by kernel_rfl) (fun _ _ _ h => h) (Or.inr ⟨by rfl, rfl⟩) (by assumption) ?_
        go_simp
        refine wpAnyH_take (i := 5) (v := undef) rfl (by kernel_rfl) (by kernel_rfl) (by kernel_rfl) (fun _ _ _ h => h) (Or.inr ⟨by rfl, rfl⟩) (by assumption) ?_
        go_simp
        refine wpAnyH_take (i := 6) (v := undef) rfl (by kernel_rfl) (by kernel_rfl) (by kernel_rfl) (fun _ _ _ h => h) (Or.inr ⟨by rfl, rfl⟩) (by assumption) ?_
        go_simp
        refine wpAnyH_take (i := 7) (v := undef) rfl (by kernel_rfl) (by kernel_rfl) (by kernel_rfl) (fun _ _ _ h => h) (Or.inr ⟨by rfl, rfl⟩) (by assumption) ?_
        go_simp
        refine wpAnyH_take (i := 8) (v := undef) rfl (by kernel_rfl) (by kernel_rfl) (by kernel_rfl) (fun _ _ _ h => h) (Or.inr ⟨by rfl, rfl⟩) (by assumption) ?_
        go_simp
        refine wpAnyH_take (i := 9) (v := undef) rfl (by kernel_rfl) (by kernel_rfl) (by kernel_rfl) (fun _ _ _ h => h) (Or.inr ⟨by rfl, rfl⟩) (by assumption) ?_
        go_simp
        refine wpAnyH_take (i := 10) (v := undef) rfl (by kernel_rfl) (by kernel_rfl) (by kernel_rfl) (fun _ _ _ h => h) (Or.inr ⟨by rfl, rfl⟩) (by assumption) ?_
        go_simp
        refine wpAnyH_take (i := 11) (v := undef) rfl (by kernel_rfl) (by kernel_rfl) (by kernel_rfl) (fun _ _ _ h => h) (Or.inr ⟨by rfl, rfl⟩) (by assumption) ?_
        go_simp
        refine wpAnyH_take (i := 12) (v := undef) rfl (by kernel_rfl) (by kernel_rfl) (by kernel_rfl) (fun _ _ _ h => h) (Or.inr ⟨by rfl, rfl⟩) (by assumption) ?_
        go_simp
        refine wpAnyH_take (i := 13) (v := (.bool false)) rfl (by kernel_rfl) (by kernel_rfl) (by kernel_rfl) (fun _ _ _ h => h) (Or.inl ⟨by rfl, ?hhp13⟩) (by assumption) ?rrp13
        case hhp13 => (intro wz9 hSw; (try dsimp only at hSw); go_simp; try with_reducible rfl)
        go_simp
        refine wpAnyH_take (i := 14) (v := (.bool false)) rfl (by kernel_rfl) (by kernel_rfl) (by kernel_rfl) (fun _ _ _ h => h) (Or.inl ⟨by rfl, ?hhp14⟩) (by assumption) ?rrp14
        case hhp14 => (intro wz9 hSw; (try dsimp only at hSw); go_simp; try with_reducible rfl)
        go_simp
        refine wpAnyH_take (i := 15) (v := ?vvp15) rfl (by kernel_rfl) (by kernel_rfl) (by kernel_rfl) (fun _ _ _ h => h) (Or.inl ⟨by rfl, ?hhp15⟩) (by assumption) ?rrp15
        case hhp15 => (intro wz9 hSw; (try dsimp only at hSw); go_simp; try with_reducible rfl)
        go_simp
        refine wpAnyH_take (i := 16) (v := ?vvp16) rfl (by kernel_rfl) (by kernel_rfl) (by kernel_rfl) (fun _ _ _ h => h) (Or.inl ⟨by rfl, ?hhp16⟩) (by assumption) ?rrp16
        case hhp16 => (intro wz9 hSw; (try dsimp only at hSw); go_simp; try with_reducible rfl)
        go_simp
        refine wpAnyH_take (i := 17) (v := ?vvp17) rfl (by kernel_rfl) (by kernel_rfl) (by kernel_rfl) (fun _ _ _ h => h) (Or.inl ⟨by rfl, ?hhp17⟩) (by assumption) ?rrp17
        case hhp17 => (intro wz9 hSw; (try dsimp only at hSw); go_simp; try with_reducible rfl)
        go_simp
        refine wpAnyH_take (i := 18) (v := ?vvp18) rfl (by kernel_rfl) (by kernel_rfl) (by kernel_rfl) (fun _ _ _ h => h) (Or.inl ⟨by rfl, ?hhp18⟩) (by assumption) ?rrp18
        case hhp18 => (intro wz9 hSw; (try dsimp only at hSw); go_simp; try with_reducible rfl)
        go_simp
        refine wpAnyH_take (i := 19) (v := ?vvp19) rfl (by kernel_rfl) (by kernel_rfl) (by kernel_rfl) (fun _ _ _ h => h) (Or.inl ⟨by rfl, ?hhp19⟩) (by assumption) ?rrp19
        case hhp19 => (intro wz9 hSw; (try dsimp only at hSw); go_simp; try with_reducible rfl)
        go_simp
        refine wpAnyH_take (i := 20) (v := (.int .u8 x1)) rfl (by kernel_rfl) (by kernel_rfl) (by kernel_rfl) (fun _ _ _ h => h) (Or.inl ⟨by rfl, ?hhp20⟩) (by assumption) ?rrp20
        case hhp20 => (intro wz9 hSw; (try dsimp only at hSw); go_simp; try with_reducible rfl)
        go_simp
        refine wpAnyH_ready (rs := [21]) (by kernel_rfl) (by simp) ?_
        refine AllReadyH.cons rfl (fun K9 hK9 => ?_) AllReadyH.nil
        go_simp
        go_wp2_with (go_at_call 6; refine (HC.out _).mono ?_; rintro e w21 ⟨rfl, hk21⟩)
        refine hK9.out _ _ ?_ (fun hHeld => ?_)
        · exact keepS hk21 (by assumption)
        clear hK9 K9
        refine wpAnyH_take (i := 22) (v := (.bool false)) rfl (by kernel_rfl) (by kernel_rfl) (by kernel_rfl) (fun _ _ _ h => h) (Or.inl ⟨by rfl, ?hhp22⟩) (by assumption) ?rrp22
        case hhp22 => (intro wz9 hSw; (try dsimp only at hSw); go_simp; try with_reducible rfl)
        go_simp
        refine wpAnyH_take (i := 23) (v := (.bool false)) rfl (by kernel_rfl) (by kernel_rfl) (by kernel_rfl) (fun _ _ _ h => h) (Or.inl ⟨by rfl, ?hhp23⟩) (by assumption) ?rrp23
        case hhp23 => (intro wz9 hSw; (try dsimp only at hSw); go_simp; try with_reducible rfl)
        go_simp
        refine wpAnyH_done (by kernel_rfl) ?_ _
        go_wp2
        go_roundw
        case rel => exact ⟨1, by go_num, by omega, (hk.drew).trans hk21⟩
        case measure => simp [intOf]; omega
      | succ j =>
        have hri := HRI.out j hlt
        rw [getD_at _ j (by omega), getD_at _ (j + 1) hlt] at hri
        have hc0 : wr.cell? ⟨b, off + j, none⟩ = some (.int .u8 L[j].toNat) := by
          obtain ⟨b', off', hbb, _, hc0⟩ := hrow.at_ (k := j) (by simp; omega)
          cases hbb
          rw [hc0]
          simp [B8]
        clear hx1
        generalize L[j + 1].toNat = x1 at *
        generalize L[j].toNat = x0 at *
        have hx : (x0 : Int) < x1 := by omega
        have hd : decide ((x1 : Int) ≤ x0) = false := by simp; omega
        have hH0 : wr.drew.cell? ⟨b, off + j, none⟩ = some (.int .u8 x0) ∧ wr.drew.cell? ⟨b, off + (j + 1), none⟩ = some (.int .u8 x1) ∧ Kept No w wr.drew := ⟨hc0, hc1, (hk2.trans hk).drew⟩
        have hjn : j < L.length := by omega
        have hj0 : (0 : Int) ≤ (j : Int) + 1 := by omega
        have hjw : IntKind.i64.wrap (j : Int) = (j : Int) := IntWalk.i64_in _ (by omega)
        go_wp2_with fail
        refine wp_region_held_drew (S := (fun wx => wx.cell? ⟨b, off + j, none⟩ = some (.int .u8 x0) ∧ wx.cell? ⟨b, off + (j + 1), none⟩ = some (.int .u8 x1) ∧ Kept No w wx)) (by kernel_rfl) ?_ (fun hHeld => ?_)
        · exact hH0
        refine wpAnyH_take (i := 0) (v := ?vvq0) rfl (by kernel_rfl) (by kernel_rfl) (by kernel_rfl) (fun _ _ _ h => h) (Or.inl ⟨by rfl, ?hhq0⟩) (by assumption) ?rrq0
        case hhq0 => (intro wz9 hSw; (try dsimp only at hSw); go_simp; try with_reducible rfl)
        go_simp
        refine wpAnyH_take (i := 1) (v := (.bool true)) rfl (by kernel_rfl) (by kernel_rfl) (by kernel_rfl) (fun _ _ _ h => h) (Or.inl ⟨by rfl, ?hhq1⟩) (by assumption) ?rrq1
        case hhq1 => (intro wz9 hSw; (try dsimp only at hSw); go_simp; try with_reducible rfl)
        go_simp
        refine wpAnyH_take (i := 2) (v := (.bool true)) rfl (by kernel_rfl) (by kernel_rfl) (by kernel_rfl) (fun _ _ _ h => h) (Or.inl ⟨by rfl, ?hhq2⟩) (by assumption) ?rrq2
        case hhq2 => (intro wz9 hSw; (try dsimp only at hSw); go_simp; try with_reducible rfl)
        go_simp
        refine wpAnyH_take (i := 3) (v := ?vvq3) rfl (by kernel_rfl) (by kernel_rfl) (by kernel_rfl) (fun _ _ _ h => h) (Or.inl ⟨by rfl, ?hhq3⟩) (by assumption) ?rrq3
        case hhq3 => (intro wz9 hSw; (try dsimp only at hSw); go_simp; try with_reducible rfl)
        go_simp
        refine wpAnyH_take (i := 4) (v := ?vvq4) rfl (by kernel_rfl) (by kernel_rfl) (by kernel_rfl) (fun _ _ _ h => h) (Or.inl ⟨by rfl, ?hhq4⟩) (by assumption) ?rrq4
        case hhq4 => (intro wz9 hSw; (try dsimp only at hSw); go_simp; try with_reducible rfl)
        go_simp
        refine wpAnyH_take (i := 5) (v := (.int .i64 j)) rfl (by kernel_rfl) (by kernel_rfl) (by kernel_rfl) (fun _ _ _ h => h) (Or.inl ⟨by rfl, ?hhq5⟩) (by assumption) ?rrq5
        case hhq5 => (intro wz9 hSw; (try dsimp only at hSw); go_simp; try with_reducible rfl)
        go_simp
        refine wpAnyH_take (i := 6) (v := (.pointer (some ⟨b, off + j, none⟩))) rfl (by kernel_rfl) (by kernel_rfl) (by kernel_rfl) (fun _ _ _ h => h) (Or.inl ⟨by rfl, ?hhq6⟩) (by assumption) ?rrq6
        case hhq6 => (intro wz9 hSw; (try dsimp only at hSw); go_simp; try with_reducible rfl)
        go_simp
        refine wpAnyH_take (i := 7) (v := (.int .u8 x0)) rfl (by kernel_rfl) (by kernel_rfl) (by kernel_rfl) (fun _ _ _ h => h) (Or.inl ⟨by rfl, ?hhq7⟩) (by assumption) ?rrq7
        case hhq7 => (intro wz9 hSw; (try dsimp only at hSw); go_simp; try with_reducible rfl)
        go_simp
        refine wpAnyH_take (i := 8) (v := ?vvq8) rfl (by kernel_rfl) (by kernel_rfl) (by kernel_rfl) (fun _ _ _ h => h) (Or.inl ⟨by rfl, ?hhq8⟩) (by assumption) ?rrq8
        case hhq8 => (intro wz9 hSw; (try dsimp only at hSw); go_simp; try with_reducible rfl)
        go_simp
        refine wpAnyH_take (i := 9) (v := ?vvq9) rfl (by kernel_rfl) (by kernel_rfl) (by kernel_rfl) (fun _ _ _ h => h) (Or.inl ⟨by rfl, ?hhq9⟩) (by assumption) ?rrq9
        case hhq9 => (intro wz9 hSw; (try dsimp only at hSw); go_simp; try with_reducible rfl)
        go_simp
        refine wpAnyH_take (i := 10) (v := (.pointer (some ⟨b, off + (j + 1), none⟩))) rfl (by kernel_rfl) (by kernel_rfl) (by kernel_rfl) (fun _ _ _ h => h) (Or.inl ⟨by rfl, ?hhq10⟩) (by assumption) ?rrq10
        case hhq10 => (intro wz9 hSw; (try dsimp only at hSw); go_simp; try with_reducible rfl)
        go_simp
        refine wpAnyH_take (i := 11) (v := (.int .u8 x1)) rfl (by kernel_rfl) (by kernel_rfl) (by kernel_rfl) (fun _ _ _ h => h) (Or.inl ⟨by rfl, ?hhq11⟩) (by assumption) ?rrq11
        case hhq11 => (intro wz9 hSw; (try dsimp only at hSw); go_simp; try with_reducible rfl)
        go_simp
        refine wpAnyH_take (i := 12) (v := (.bool false)) rfl (by kernel_rfl) (by kernel_rfl) (by kernel_rfl) (fun _ _ _ h => h) (Or.inl ⟨by rfl, ?hhq12⟩) (by assumption) ?rrq12
        case hhq12 => (intro wz9 hSw; (try dsimp only at hSw); go_simp; try with_reducible rfl)
        go_simp
        refine wpAnyH_take (i := 13) (v := (.bool false)) rfl (by kernel_rfl) (by kernel_rfl) (by kernel_rfl) (fun _ _ _ h => h) (Or.inl ⟨by rfl, ?hhq13⟩) (by assumption) ?rrq13
        case hhq13 => (intro wz9 hSw; (try dsimp only at hSw); go_simp; try with_reducible rfl)
        go_simp
        refine wpAnyH_take (i := 14) (v := (.bool false)) rfl (by kernel_rfl) (by kernel_rfl) (by kernel_rfl) (fun _ _ _ h => h) (Or.inl ⟨by rfl, ?hhq14⟩) (by assumption) ?rrq14
        case hhq14 => (intro wz9 hSw; (try dsimp only at hSw); go_simp; try with_reducible rfl)
        go_simp
        refine wpAnyH_take (i := 15) (v := ?vvq15) rfl (by kernel_rfl) (by kernel_rfl) (by kernel_rfl) (fun _ _ _ h => h) (Or.inl ⟨by rfl, ?hhq15⟩) (by assumption) ?rrq15
        case hhq15 => (intro wz9 hSw; (try dsimp only at hSw); go_simp; try with_reducible rfl)
        go_simp
        refine wpAnyH_take (i := 16) (v := ?vvq16) rfl (by kernel_rfl) (by kernel_rfl) (by kernel_rfl) (fun _ _ _ h => h) (Or.inl ⟨by rfl, ?hhq16⟩) (by assumption) ?rrq16
        case hhq16 => (intro wz9 hSw; (try dsimp only at hSw); go_simp; try with_reducible rfl)
        go_simp
        refine wpAnyH_take (i := 17) (v := ?vvq17) rfl (by kernel_rfl) (by kernel_rfl) (by kernel_rfl) (fun _ _ _ h => h) (Or.inl ⟨by rfl, ?hhq17⟩) (by assumption) ?rrq17
        case hhq17 => (intro wz9 hSw; (try dsimp only at hSw); go_simp; try with_reducible rfl)
        go_simp
        refine wpAnyH_take (i := 18) (v := ?vvq18) rfl (by kernel_rfl) (by kernel_rfl) (by kernel_rfl) (fun _ _ _ h => h) (Or.inl ⟨by rfl, ?hhq18⟩) (by assumption) ?rrq18
        case hhq18 => (intro wz9 hSw; (try dsimp only at hSw); go_simp; try with_reducible rfl)
        go_simp
        refine wpAnyH_take (i := 19) (v := ?vvq19) rfl (by kernel_rfl) (by kernel_rfl) (by kernel_rfl) (fun _ _ _ h => h) (Or.inl ⟨by rfl, ?hhq19⟩) (by assumption) ?rrq19
        case hhq19 => (intro wz9 hSw; (try dsimp only at hSw); go_simp; try with_reducible rfl)
        go_simp
        refine wpAnyH_take (i := 20) (v := (.int .u8 x1)) rfl (by kernel_rfl) (by kernel_rfl) (by kernel_rfl) (fun _ _ _ h => h) (Or.inl ⟨by rfl, ?hhq20⟩) (by assumption) ?rrq20
        case hhq20 => (intro wz9 hSw; (try dsimp only at hSw); go_simp; try with_reducible rfl)
        go_simp
        refine wpAnyH_ready (rs := [21]) (by kernel_rfl) (by simp) ?_
        refine AllReadyH.cons rfl (fun K9 hK9 => ?_) AllReadyH.nil
        go_simp
        go_wp2_with (go_at_call 6; refine (HC.out _).mono ?_; rintro e w21 ⟨rfl, hk21⟩)
        refine hK9.out _ _ ?_ (fun hHeld => ?_)
        · exact keepS2 hk21 (by assumption)
        clear hK9 K9
        refine wpAnyH_take (i := 22) (v := (.bool false)) rfl (by kernel_rfl) (by kernel_rfl) (by kernel_rfl) (fun _ _ _ h => h) (Or.inl ⟨by rfl, ?hhq22⟩) (by assumption) ?rrq22
        case hhq22 => (intro wz9 hSw; (try dsimp only at hSw); go_simp; try with_reducible rfl)
        go_simp
        refine wpAnyH_take (i := 23) (v := (.bool false)) rfl (by kernel_rfl) (by kernel_rfl) (by kernel_rfl) (fun _ _ _ h => h) (Or.inl ⟨by rfl, ?hhq23⟩) (by assumption) ?rrq23
        case hhq23 => (intro wz9 hSw; (try dsimp only at hSw); go_simp; try with_reducible rfl)
        go_simp
        refine wpAnyH_done (by kernel_rfl) ?_ _
        clear hjw
        go_wp2
        go_roundw
        case rel => exact ⟨j + 1 + 1, by go_num, by omega, (hk.drew).trans hk21⟩
        case measure => simp [intOf]; omega
    · have hrow := hra2.keptNo hk
      have hrowb := hrb.keptNo hk
      have hcv := Lib.hid fun wx (h : Row wx a (B8 L)) => row_strR (P := Try.prog) 24 9 5 Try.underlying24 Try.underlying5 Try.underlying9 h c HNA.out
      have hcv' := Lib.hid fun wx (h : Row wx a' (B8 L)) => row_strR (P := Try.prog) 24 9 5 Try.underlying24 Try.underlying5 Try.underlying9 h c' HNB.out
      go_wp2_with (go_at_call 5; refine (told3_any _).mono ?_; rintro e w5 ⟨rfl, hk5⟩; have hv1 := hcv.out _ (hrow.keptNo hk5); have hv2 := hcv'.out _ (hrowb.keptNo hk5))
      go_ret
      exact ⟨by first | rfl | simp, ((hk2.trans hk).trans hk5).below (Nat.le_refl _) (fun _ _ f => f)⟩

end Go.Proofs.Ytcacpjdmlcclkaa
