/-
  The document's ids, and which of them a kind may have.
-/
import Derived.Test.YtlabkbdnknmngaaDoorPfxM
namespace Go.Proofs.YtlabkbdnknmngaaDoor
open Go.RowKit
set_option linter.unusedVariables false
set_option linter.unusedSimpArgs false

def IdsAre (w : World) (e : Ending) (w' : World) : Prop := ∃ a, e = .returned (.slice a 27 27) ∧ Row w' a (nats idsC) ∧ Kept No w w'
theorem ids_new (w : World) (t : TypeId) {cs : List Value} (hc : cs = nats idsC) : IdsAre w (.returned (.slice (some ⟨w.heap.size, 0, none⟩) 27 27)) (w.alloc (.cells cs.toArray t)) := by
  subst hc
  exact ⟨_, rfl, .of_cells (new_cells w t _ _ rfl), (Kept.refl No w).alloc _⟩
set_option maxRecDepth 100000 in
theorem ids_any (w : World) : Calls Tryd.prog 40 #[] w (IdsAre w) := by
  go_enter Tryd.func40, Tryd.ntmps40
  go_wp2
  go_ret
  exact ids_new w _ rfl
theorem info_u8p : (Tryd.prog.info? 5).map (fun i => (i.zero, i.size, i.bytes)) = some (some (.int .u8 0), 1, 1) := by kernel_rfl
/-- The rest of Fix, behind the loop: what is told of the slice of ids. -/
def IdRow (w : World) (v : Value) (l : List Nat) : Prop := ∃ a cap, v = .slice a l.length cap ∧ ∀ j (h : j < l.length), ∃ g, a = some ⟨g, 0, none⟩ ∧ g < w.heap.size ∧ w.cell? ⟨g, j, none⟩ = some (.int .u8 (l[j] : Nat))
theorem bl_get (l : List Nat) (hl : ∀ i ∈ l, i < 256) (j : Nat) (h : j < l.length) : (B8 (bl l))[j]? = some (.int .u8 (l[j] : Nat)) := by
  have h1 := hl _ (List.getElem_mem h)
  simp [B8, bl, List.getElem?_eq_getElem h, UInt8.toNat_ofNat_of_lt' (show l[j] < UInt8.size from h1)]
theorem idRow_of {w : World} {B n : Nat} {e : TypeId} {v : Value} {xs : List Value} {l : List Nat} (h : w.ownsRow B e 1 v n xs) (hn : n = l.length) (hx : xs = B8 (bl l)) (hl : ∀ i ∈ l, i < 256) : IdRow w v l := by
  subst hn hx
  rcases h.2 with ⟨rfl, h0⟩ | ⟨g, cap, cur, rfl, hb, hg, hrest⟩
  · refine ⟨none, 0, ?_, fun j hj => absurd hj (by omega)⟩
    rw [h0]
  · refine ⟨some ⟨g, 0, none⟩, cap, rfl, fun j hj => ⟨g, rfl, (Array.getElem?_eq_some_iff.1 hg).1, ?_⟩⟩
    rw [World.ownsRow.cellAt h j (by omega)]
    exact bl_get l hl j hj
theorem idsL_lt (k : Int) : ∀ i ∈ idsL k, i < 256 := fun i h => (idsL_mem h).2.1

theorem typ3 (q : Nat) (h : q < 256) (ht : typL q = 3) : q = 2 ∨ q = 17 ∨ q = 24 ∨ q = 39 := by
  have key : ∀ q : Fin 256, typL q.1 = 3 → q.1 = 2 ∨ q.1 = 17 ∨ q.1 = 24 ∨ q.1 = 39 := by decide +kernel
  exact key ⟨q, h⟩ ht
theorem typ5 (q : Nat) (h : q < 256) (ht : typL q = 5) : q = 3 ∨ q = 8 ∨ q = 18 ∨ q = 21 ∨ q = 26 ∨ q = 28 ∨ q = 31 := by
  have key : ∀ q : Fin 256, typL q.1 = 5 → q.1 = 3 ∨ q.1 = 8 ∨ q.1 = 18 ∨ q.1 = 21 ∨ q.1 = 26 ∨ q.1 = 28 ∨ q.1 = 31 := by decide +kernel
  exact key ⟨q, h⟩ ht

end Go.Proofs.YtlabkbdnknmngaaDoor
