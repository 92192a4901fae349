/-
  Contracts of package reason and of the document's own text (pouchref03).
-/
import Derived.Test.YtcacpjdmlcclkaaRsnM
import Derived.Test.YtcacpjdmlcclkaaBase
import Derived.Test.YtcacpjdmlcclkaaChecked
namespace Go.Proofs.Ytcacpjdmlcclkaa
open Go.RowKit
set_option linter.unusedVariables false
set_option linter.unusedSimpArgs false

def spCells (l : List (Nat × Nat)) : List Value := l.flatMap fun p => [.int .u8 p.1, .int .u8 p.2]
def SpansIs (w : World) (l : List (Nat × Nat)) (e : Ending) (w' : World) : Prop :=
  ∃ a, e = .returned (.slice a l.length l.length) ∧ Row w' a (spCells l) ∧ Kept No w w'
theorem spans_new (w : World) (t : TypeId) (l : List (Nat × Nat)) (n : Nat) (cs : List Value) (hn : n = l.length) (hc : cs = spCells l) :
    SpansIs w l (.returned (.slice (some ⟨w.heap.size, 0, none⟩) n n)) (w.alloc (.cells cs.toArray t)) := by
  subst hn hc
  exact ⟨_, rfl, .of_cells (new_cells w t _ _ rfl), (Kept.refl No w).alloc _⟩
theorem spans_none (w : World) : SpansIs w [] (.returned (.slice none 0 0)) w := ⟨none, rfl, .nil _ _, .refl _ _⟩

set_option maxHeartbeats 1000000 in
theorem spans4_any (k : Int) (w : World) : Calls Try.prog 14 #[.int .i64 k] w (SpansIs w (sp4 k)) := by
  by_cases h : k = 2 ∨ k = 4 ∨ k = 5 ∨ k = 6 ∨ k = 7 ∨ k = 14 ∨ k = 9
  · rcases h with rfl | rfl | rfl | rfl | rfl | rfl | rfl
    all_goals
      go_enter Try.func14, Try.ntmps14
      go_wp2
      go_ret
      exact spans_new w _ _ _ _ rfl rfl
  · have e : sp4 k = [] := by
      unfold sp4
      rw [if_neg (by omega), if_neg (by omega), if_neg (by omega)]
    have b2 : (k == 2) = false := by simp; omega
    have b4 : (k == 4) = false := by simp; omega
    have b5 : (k == 5) = false := by simp; omega
    have b6 : (k == 6) = false := by simp; omega
    have b7 : (k == 7) = false := by simp; omega
    have b14 : (k == 14) = false := by simp; omega
    have b9 : (k == 9) = false := by simp; omega
    rw [e]
    clear e h
    go_enter Try.func14, Try.ntmps14
    go_wp2
    go_ret
    exact spans_none w

set_option maxRecDepth 100000 in
set_option maxHeartbeats 1000000 in
theorem spans5_any (k : Int) (w : World) : Calls Try.prog 15 #[.int .i64 k] w (SpansIs w (sp5 k)) := by
  by_cases h : k = 2 ∨ k = 4 ∨ k = 5 ∨ k = 6 ∨ k = 7 ∨ k = 9 ∨ k = 11 ∨ k = 14 ∨ k = 15
  · rcases h with rfl | rfl | rfl | rfl | rfl | rfl | rfl | rfl | rfl
    all_goals
      go_enter Try.func15, Try.ntmps15
      go_wp2
      go_ret
      exact spans_new w _ _ _ _ rfl rfl
  · have e : sp5 k = [] := by
      unfold sp5
      rw [if_neg (by omega), if_neg (by omega), if_neg (by omega), if_neg (by omega), if_neg (by omega), if_neg (by omega), if_neg (by omega)]
    have b2 : (k == 2) = false := by simp; omega
    have b4 : (k == 4) = false := by simp; omega
    have b5 : (k == 5) = false := by simp; omega
    have b6 : (k == 6) = false := by simp; omega
    have b7 : (k == 7) = false := by simp; omega
    have b9 : (k == 9) = false := by simp; omega
    have b11 : (k == 11) = false := by simp; omega
    have b14 : (k == 14) = false := by simp; omega
    have b15 : (k == 15) = false := by simp; omega
    rw [e]
    clear e h
    go_enter Try.func15, Try.ntmps15
    go_wp2
    go_ret
    exact spans_none w

theorem spans_any (v k : Int) (w : World) : Calls Try.prog 12 #[.int .i64 v, .int .i64 k] w (SpansIs w (sp v k)) := by
  by_cases h4 : v = 4
  · subst h4
    rw [show sp 4 k = sp4 k from rfl]
    go_enter Try.func12, Try.ntmps12
    go_wp2_with (go_at_call 14; refine (spans4_any k _).mono ?_; rintro e w1 ⟨a, rfl, hr, hk⟩)
    go_ret
    exact ⟨a, rfl, hr, hk⟩
  · by_cases h5 : v = 5
    · subst h5
      rw [show sp 5 k = sp5 k from rfl]
      go_enter Try.func12, Try.ntmps12
      go_wp2_with (go_at_call 15; refine (spans5_any k _).mono ?_; rintro e w1 ⟨a, rfl, hr, hk⟩)
      go_ret
      exact ⟨a, rfl, hr, hk⟩
    · have e : sp v k = [] := by unfold sp; rw [if_neg h4, if_neg h5]
      have b4 : (v == 4) = false := by simpa using h4
      have b5 : (v == 5) = false := by simpa using h5
      rw [e]
      clear e h4 h5
      go_enter Try.func12, Try.ntmps12
      go_wp2
      go_ret
      exact spans_none w

end Go.Proofs.Ytcacpjdmlcclkaa
