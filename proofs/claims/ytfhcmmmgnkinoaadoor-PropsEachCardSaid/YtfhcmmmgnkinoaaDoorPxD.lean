/-
  Lists of properties: To, From, Clone, Same, Equal: made by mkpxd.py.
-/
import Derived.Test.YtfhcmmmgnkinoaaDoorPxC
import Derived.Deep.RegionHeld3
import Derived.Laws.StructEq
namespace Go.Proofs.YtfhcmmmgnkinoaaDoor
open Go.RowKit
set_option linter.unusedVariables false
set_option linter.unusedSimpArgs false
set_option maxRecDepth 100000

/-- A call that answers a list of properties of its own. -/
def OwnP (e : TypeId) (w : World) (L : List Pr) (ed : Ending) (w' : World) : Prop :=
  ∃ a c, ed = .returned (.slice a L.length c) ∧ w'.ownsRow w.heap.size e 4 (.slice a L.length c) L.length (PC L) ∧ Kept No w w'
theorem ownP_of {e : TypeId} {w w' : World} {v : Value} {L : List Pr} {n : Nat} {xs : List Value} (h : w'.ownsRow w.heap.size e 4 v n xs) (hn : n = L.length) (hx : xs = PC L) (hk : Kept No w w') : OwnP e w L (.returned v) w' := by
  subst hn hx
  rcases h.2 with ⟨hv, h0⟩ | ⟨g, cap, cur, hv, _⟩
  · subst hv
    exact ⟨none, 0, by rw [h0], by rw [h0] at h ⊢; exact h, hk⟩
  · subst hv
    exact ⟨_, _, rfl, h, hk⟩
theorem OwnP.from {t : TypeId} {w0 w w' : World} {L : List Pr} {e : Ending} (h : OwnP t w L e w') (hk : Kept No w0 w) : OwnP t w0 L e w' := by
  obtain ⟨a, c, h1, h3, h4⟩ := h
  exact ⟨a, c, h1, own_mono h3 hk.size, hk.trans h4⟩
theorem take_pr {L : List Pr} {j : Nat} (h : j < L.length) : L.take (j + 1) = L.take j ++ [L[j]] := List.take_succ_eq_append_getElem h
theorem PC_length4 (L : List Pr) (p : Pr) : (PC [p]).length = 1 * 4 := by rw [PC_length]; rfl
theorem new_prop {w : World} {t : TypeId} {p : Pr} : ∀ j u, (PC [p])[j]? = some u → (w.alloc (.cells #[.int .u8 p.id, .int .u32 p.n, .string p.a, .string p.b] t)).cell? ((⟨w.heap.size, 0, none⟩ : Addr).add j) = some u := by
  have h : PC [p] = [.int .u8 p.id, .int .u32 p.n, .string p.a, .string p.b] := by rw [PC_one]; rfl
  rw [h]
  exact new_at rfl

set_option maxHeartbeats 4000000 in
theorem tolist_any (a : Option Addr) (c : Nat) (L : List Pr) (w : World) (hr : Row w a (PC L)) (hl : L.length ≤ 100000) :
    Calls Tryd.prog 13 #[.slice a L.length c] w (OwnP 55 w L) := by
  obtain ⟨i0, hi, hz0, hz1, hz2⟩ := info_parts info_prop
  go_enter Tryd.func13, Tryd.ntmps13
  go_wp2
  go_loopw [3, 4] (fun s i wr => ∃ j : Nat, i = .int .i64 j ∧ j ≤ L.length ∧ wr.ownsRow w.heap.size 55 4 s j (PC (L.take j)) ∧ Kept No w wr) (fun _ i _ => L.length - (intOf i).toNat)
  case atStart => exact ⟨0, rfl, by omega, World.ownsRow_nil _ _ _ _, Kept.refl _ _⟩
  case round =>
    obtain ⟨j, rfl, hj, hown, hk⟩ := hrel
    have hsz := hk.size
    by_cases hlt : j < L.length
    · obtain ⟨b, off, rfl, hb, q0, q1, q2, q3⟩ := (hr.keptNo hk).prop hlt
      have HT := Lib.hid (take_pr hlt)
      generalize L[j] = p at *
      obtain ⟨id, n, A, B⟩ := p
      dsimp only at q0 q1 q2 q3
      go_wp2_with (first
        | (go_at_call 47; refine (to_any id n A B _).mono ?_; rintro e w2 ⟨rfl, hk2⟩; have hown1 := own_keptNo hown hk2)
        | (at_builtin; refine wpList_append_own _ rfl _ _ _ rfl w.heap.size 55 i0 _ 4 40 Tryd.underlying27 hi hz0 hz1 hz2 rfl (by decide) _ _ _ rfl (hown1.alloc _) ⟨w2.heap.size, 0, none⟩ 1 1 (PC [⟨id, n, A, B⟩]) rfl ?c0 ?c1 (PC_cell1 _) ?c2 ?c3 ?c4 ?_; rotate_right; intro v3 w3 hown3 hg3 _))
      case c0 => exact PC_length4 [] _
      case c1 => exact new_prop (p := ⟨id, n, A, B⟩)
      case c2 => unfold maxLen; omega
      case c3 => omega
      case c4 => have := hk2.size; simp; omega
      go_roundw
      case rel => exact ⟨j + 1, by go_num, by omega, by rw [HT.out, PC_append]; exact hown3, ((hk.trans hk2).alloc _).grown hg3 (own_no hown1)⟩
      case measure => simp [intOf]; omega
    · have hje : j = L.length := by omega
      have HF := Lib.hid (List.take_of_length_le (l := L) (i := j) (by omega))
      go_wp2
      go_ret
      exact ownP_of hown hje (by rw [HF.out]) hk

set_option maxHeartbeats 4000000 in
theorem fromlist_any (a : Option Addr) (c : Nat) (L : List Pr) (w : World) (hr : Row w a (PC L)) (hl : L.length ≤ 100000) :
    Calls Tryd.prog 20 #[.slice a L.length c] w (OwnP 58 w L) := by
  obtain ⟨i0, hi, hz0, hz1, hz2⟩ := info_parts info_rprop
  go_enter Tryd.func20, Tryd.ntmps20
  go_wp2
  go_loopw [3, 4] (fun s i wr => ∃ j : Nat, i = .int .i64 j ∧ j ≤ L.length ∧ wr.ownsRow w.heap.size 58 4 s j (PC (L.take j)) ∧ Kept No w wr) (fun _ i _ => L.length - (intOf i).toNat)
  case atStart => exact ⟨0, rfl, by omega, World.ownsRow_nil _ _ _ _, Kept.refl _ _⟩
  case round =>
    obtain ⟨j, rfl, hj, hown, hk⟩ := hrel
    have hsz := hk.size
    by_cases hlt : j < L.length
    · obtain ⟨b, off, rfl, hb, q0, q1, q2, q3⟩ := (hr.keptNo hk).prop hlt
      have HT := Lib.hid (take_pr hlt)
      generalize L[j] = p at *
      obtain ⟨id, n, A, B⟩ := p
      dsimp only at q0 q1 q2 q3
      go_wp2_with (first
        | (go_at_call 32; refine (from_any id n A B _).mono ?_; rintro e w2 ⟨rfl, hk2⟩; have hown1 := own_keptNo hown hk2)
        | (at_builtin; refine wpList_append_own _ rfl _ _ _ rfl w.heap.size 58 i0 _ 4 40 Tryd.underlying22 hi hz0 hz1 hz2 rfl (by decide) _ _ _ rfl (hown1.alloc _) ⟨w2.heap.size, 0, none⟩ 1 1 (PC [⟨id, n, A, B⟩]) rfl ?c0 ?c1 (PC_cell1 _) ?c2 ?c3 ?c4 ?_; rotate_right; intro v3 w3 hown3 hg3 _))
      case c0 => exact PC_length4 [] _
      case c1 => exact new_prop (p := ⟨id, n, A, B⟩)
      case c2 => unfold maxLen; omega
      case c3 => omega
      case c4 => have := hk2.size; simp; omega
      go_roundw
      case rel => exact ⟨j + 1, by go_num, by omega, by rw [HT.out, PC_append]; exact hown3, ((hk.trans hk2).alloc _).grown hg3 (own_no hown1)⟩
      case measure => simp [intOf]; omega
    · have hje : j = L.length := by omega
      have HF := Lib.hid (List.take_of_length_le (l := L) (i := j) (by omega))
      go_wp2
      go_ret
      exact ownP_of hown hje (by rw [HF.out]) hk

set_option maxHeartbeats 1000000 in
theorem pclone_any (a : Option Addr) (c : Nat) (L : List Pr) (w : World) (hr : Row w a (PC L)) (hn : a = none → L.length = 0 ∧ c = 0) (hl : L.length ≤ 100000) :
    Calls Tryd.prog 62 #[.slice a L.length c] w (OwnP 55 w L) := by
  have q36 : ∀ (w : World) (a : Option Addr) (n c n' c' : Nat), (binOp .eql 27 (.slice a n c) (.slice none n' c')).run Tryd.prog w = .ok (.bool a.isNone) w := fun w a n c n' c' => Lib.run_eql_slice_nil w _ _ a n c n' c' Tryd.underlying27
  obtain ⟨i0, hi, hz0, hz1, hz2⟩ := info_parts info_prop
  cases a with
  | none =>
    obtain ⟨h0, rfl⟩ := hn rfl
    obtain rfl : L = [] := List.length_eq_zero_iff.1 h0
    go_enter Tryd.func62, Tryd.ntmps62
    go_wp2
    go_ret
    exact ⟨none, 0, rfl, World.ownsRow_nil _ _ _ _, Kept.refl _ _⟩
  | some ad =>
    go_enter Tryd.func62, Tryd.ntmps62
    go_wp2_with (at_builtin; refine wpList_append_own _ rfl _ _ _ rfl w.heap.size 55 i0 _ 4 40 Tryd.underlying27 hi hz0 hz1 hz2 rfl (by decide) _ _ _ rfl (own_emptyK w _ _ 4 (Nat.le_refl _)) ad L.length c (PC L) rfl (PC_length L) ?c0 (PC_cell1 _) ?c1 ?c2 ?c3 ?_; rotate_right; intro v1 w1 hown1 hg1 hv1)
    case c0 => exact (hr.keptNo ((Kept.refl No w).alloc _)).at_add ad rfl
    case c1 => unfold maxLen; omega
    case c2 => omega
    case c3 => simp
    go_ret
    exact ownP_of hown1 (by simp) (by simp) (((Kept.refl No w).alloc _).grown hg1 (own_no (own_emptyK w _ 55 4 (Nat.le_refl _))))

theorem toList_inj (a b : ByteArray) : a.toList = b.toList ↔ a = b := by
  rw [Lib.toList_data, Lib.toList_data]
  exact ⟨fun h => ByteArray.ext (Array.toList_inj.1 h), fun h => by rw [h]⟩

theorem neq_p (i1 n1 i2 n2 : Nat) (a1 b1 a2 b2 : ByteArray) (w : World) : Sem.run Tryd.prog (binOp .neq 55 (.agg #[.int .u8 i1, .int .u32 n1, .string a1, .string b1]) (.agg #[.int .u8 i2, .int .u32 n2, .string a2, .string b2])) w = .ok (.bool (!decide ((⟨i1, n1, a1, b1⟩ : Pr) = ⟨i2, n2, a2, b2⟩))) w := by
  have hS : Tryd.prog.underlying 55 = some (.struct (Tryd.prog.fieldsOf 55)) := by kernel_rfl
  have hp : Tryd.prog.stoodInHeld 55 = false := by kernel_rfl
  rw [run_neq_struct, show (10000 : Nat) = 9999 + 1 from rfl, run_equalIn_agg w 9999 55 _ _ hS hp]
  simp only [Program.fieldsOf, Tryd.underlying55]
  have u0 := Tryd.underlying5
  have u1 := Tryd.underlying53
  have u2 := Tryd.underlying9
  go_simp
  by_cases h1 : i1 = i2 <;> by_cases h2 : n1 = n2 <;> by_cases h3 : a1 = a2 <;> by_cases h4 : b1 = b2 <;> simp [h1, h2, h3, h4, toList_inj, Int.natCast_inj]

theorem neq_r (i1 n1 i2 n2 : Nat) (a1 b1 a2 b2 : ByteArray) (w : World) : Sem.run Tryd.prog (binOp .neq 58 (.agg #[.int .u8 i1, .int .u32 n1, .string a1, .string b1]) (.agg #[.int .u8 i2, .int .u32 n2, .string a2, .string b2])) w = .ok (.bool (!decide ((⟨i1, n1, a1, b1⟩ : Pr) = ⟨i2, n2, a2, b2⟩))) w := by
  have hS : Tryd.prog.underlying 58 = some (.struct (Tryd.prog.fieldsOf 58)) := by kernel_rfl
  have hp : Tryd.prog.stoodInHeld 58 = false := by kernel_rfl
  rw [run_neq_struct, show (10000 : Nat) = 9999 + 1 from rfl, run_equalIn_agg w 9999 58 _ _ hS hp]
  simp only [Program.fieldsOf, Tryd.underlying58]
  have u0 := Tryd.underlying5
  have u1 := Tryd.underlying53
  have u2 := Tryd.underlying9
  go_simp
  by_cases h1 : i1 = i2 <;> by_cases h2 : n1 = n2 <;> by_cases h3 : a1 = a2 <;> by_cases h4 : b1 = b2 <;> simp [h1, h2, h3, h4, toList_inj, Int.natCast_inj]

end Go.Proofs.YtfhcmmmgnkinoaaDoor
