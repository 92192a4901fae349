/-
  Contracts of bytes.Clone, slices.Clone, the law's To and From of lists.
-/
import Derived.Test.YtfhcmmmgnkinoaaDoorPxB
import Derived.Test.YtfhcmmmgnkinoaaDoorPrpT
import Derived.Lib.SliceRun
namespace Go.Proofs.YtfhcmmmgnkinoaaDoor
open Go.RowKit
set_option linter.unusedVariables false
set_option linter.unusedSimpArgs false
set_option maxRecDepth 100000

/-- A call that answers bytes of its own: new memory, or nil. -/
def OwnB (w : World) (l : List UInt8) (e : Ending) (w' : World) : Prop :=
  ∃ a c, e = .returned (.slice a l.length c) ∧ w'.ownsRow w.heap.size 5 1 (.slice a l.length c) l.length (B8 l) ∧ Kept No w w'
theorem Lays.own {w w' : World} {l : List UInt8} {e : Ending} (h : Lays w l e w') : OwnB w l e w' := by
  obtain ⟨g, cap, h1, _, h3, h4⟩ := h
  exact ⟨_, _, h1, h3, h4⟩
theorem own_row {w : World} {base n c size : Nat} {e : TypeId} {a : Option Addr} {xs : List Value} (h : w.ownsRow base e size (.slice a n c) n xs) : Row w a xs ∧ (a = none → n = 0 ∧ c = 0) := by
  rcases h.2 with ⟨hv, h0⟩ | ⟨g, cap, cur, hv, hg, hb, hn, hm, hs, hx⟩
  · injection hv with e1 e2 e3
    subst e1 e2 e3
    have : xs = [] := List.length_eq_zero_iff.1 (by rw [h.1]; simp)
    exact ⟨.inl this, fun _ => ⟨rfl, rfl⟩⟩
  · injection hv with e1 e2 e3
    subst e1
    refine ⟨.of_cells fun j u hu => h.cells (g := g) rfl j u hu, fun h => by cases h⟩
theorem own_emptyK (w : World) (base : Nat) (e : TypeId) (size : Nat) (hb : base ≤ w.heap.size) : (w.alloc (.cells #[] e)).ownsRow base e size (.slice (some ⟨w.heap.size, 0, none⟩) 0 0) 0 [] :=
  ⟨by simp, .inr ⟨w.heap.size, 0, #[], rfl, hb, Blk.new w e #[], by omega, by simp [maxLen], by simp, by simp⟩⟩
theorem own_mono {w : World} {b0 base size n : Nat} {e : TypeId} {v : Value} {xs : List Value} (h : w.ownsRow base e size v n xs) (hb : b0 ≤ base) : w.ownsRow b0 e size v n xs := by
  refine ⟨h.1, ?_⟩
  rcases h.2 with h | ⟨g, cap, cur, q1, q2, q3⟩
  · exact .inl h
  · exact .inr ⟨g, cap, cur, q1, by omega, q3⟩
theorem OwnB.from {w0 w w' : World} {l : List UInt8} {e : Ending} (h : OwnB w l e w') (hk : Kept No w0 w) : OwnB w0 l e w' := by
  obtain ⟨a, c, h1, h3, h4⟩ := h
  exact ⟨a, c, h1, own_mono h3 hk.size, hk.trans h4⟩

/-! clone -/
set_option maxHeartbeats 1000000 in
theorem bclone_any (a : Option Addr) (c : Nat) (l : List UInt8) (w : World) (hr : Row w a (B8 l)) (hn : a = none → l.length = 0 ∧ c = 0) (hl : l.length ≤ 140737000000000) :
    Calls Tryd.prog 43 #[.slice a l.length c] w (OwnB w l) := by
  have q36 : ∀ (w : World) (a : Option Addr) (n c n' c' : Nat), (binOp .eql 25 (.slice a n c) (.slice none n' c')).run Tryd.prog w = .ok (.bool a.isNone) w := fun w a n c n' c' => Lib.run_eql_slice_nil w _ _ a n c n' c' Tryd.underlying25
  obtain ⟨i0, hi, hz0, hz1, hz2⟩ := info_parts info_u8
  cases a with
  | none =>
    obtain ⟨h0, rfl⟩ := hn rfl
    obtain rfl : l = [] := List.length_eq_zero_iff.1 h0
    go_enter Tryd.func43, Tryd.ntmps43
    go_wp2
    go_ret
    exact ⟨none, 0, rfl, World.ownsRow_nil _ _ _ _, Kept.refl _ _⟩
  | some ad =>
    go_enter Tryd.func43, Tryd.ntmps43
    go_wp2_with (at_builtin; refine wpList_append_row _ rfl _ _ _ rfl w.heap.size 5 i0 _ 1 Tryd.underlying25 hi hz0 hz1 hz2 rfl _ _ _ rfl (own_empty w _ _ (Nat.le_refl _)) (some ad) l.length c (B8 l) rfl (by simp) ?c0 (by simp) (B8_one _) ?c1 ?c2 ?c3 ?_; rotate_right; intro v1 w1 hown1 hg1 hv1)
    case c0 => exact hr.keptNo ((Kept.refl No w).alloc _)
    case c1 => unfold maxLen; omega
    case c2 => omega
    case c3 => simp
    go_ret
    exact (lays_not hown1 (by simp) (by simp) (by intro h; have h9 := hv1.1 h; cases h9.1) (((Kept.refl No w).alloc _).grown hg1 (own_no (own_empty w _ 5 (Nat.le_refl _))))).own

theorem info_prop : (Tryd.prog.info? 55).map (fun i => (i.zero, i.size, i.bytes)) = some (some (.agg #[.int .u8 0, .int .u32 0, .string ⟨#[]⟩, .string ⟨#[]⟩]), 4, 40) := by kernel_rfl
theorem info_rprop : (Tryd.prog.info? 58).map (fun i => (i.zero, i.size, i.bytes)) = some (some (.agg #[.int .u8 0, .int .u32 0, .string ⟨#[]⟩, .string ⟨#[]⟩]), 4, 40) := by kernel_rfl

end Go.Proofs.YtfhcmmmgnkinoaaDoor
