/-
  IdsRounds walked, as the frame asks it.
-/
import Derived.Test.YtlgbljohhnhhkaaIdX
namespace Go.Proofs.Ytlgbljohhnhhkaa
open Go.RowKit Go.ChangeShapes Go.WideShapes Go.Deep
set_option linter.unusedVariables false
set_option linter.unusedSimpArgs false
set_option maxRecDepth 100000

theorem ints_nc {l : List Int} (h : ∀ n ∈ l, (Lit.int .u16 n).wf = true) : ints .u16 l = NC (l.map Int.toNat) := by
  simp only [ints, NC, List.map_map]
  refine List.map_congr_left fun n hn => ?_
  have hb := bounds_u16 (h n hn)
  simp
  omega
structure IsBls (w : World) (a : Option Addr) (len cap : Nat) (L : List Bool) : Prop where
  hlen : L.length = len
  hrow : Row w a (BLs L)
  hle : len ≤ cap
  hcap : cap ≤ maxLen
section
variable {H : Type} {enc : TypeId × Value → H} {w : World} {base : Nat} {spare : Nat → Bool} {held : Bool}
set_option maxHeartbeats 1000000 in
theorem open_bls {cs : List Value} {x : DataW H × List MemPlace} {fuel : Nat} (h : DataW.trod enc Try.prog w base spare held fuel 47 cs = some x) :
    ∃ a len cap L, cs = [.slice a len cap] ∧ IsBls w a len cap L := by
  rcases open_slice Try.underlying47 h with ⟨rfl, _⟩ | ⟨ad, len, cap, m, n, D, Pl, rfl, hb, hl, hm, hmm, rfl, hx⟩
  · exact ⟨none, 0, 0, [], rfl, rfl, .nil _ _, Nat.le_refl _, by simp⟩
  have hlm : len ≤ m := by rw [hmm]; split <;> omega
  have ce : Try.prog.cellsOf 4 = 1 := by kernel_rfl
  have each : ∀ i, i < m → ∃ p : Bool, (∀ j u, [Value.bool p][j]? = some u → w.cell? (ad.add (i * 1 + j)) = some u) ∧ True := by
    intro i hi
    obtain ⟨cs', h1, h2⟩ := hx i hi
    rw [ce] at h1
    obtain ⟨_, hlen, hcell⟩ := World.cells?_some h1
    obtain ⟨x0, e0, _⟩ := DataW.trod_bool Try.underlying4 h2
    refine ⟨x0, fun j u hu => ?_, trivial⟩
    have hj : j < 1 := (List.getElem?_eq_some_iff.1 hu).1
    have hc := hcell j hj
    rw [← Go.Deep.add_add, hc, e0]
    exact hu
  obtain ⟨L, hL, hc, hw⟩ := rows_of (fun b => [Value.bool b]) 1 (fun _ => rfl) (fun p => True) ad len (fun i hi => each i (by omega))
  refine ⟨some ad, len, cap, L, rfl, hL, .of_cells ?_, hl, hm⟩
  have e : BLs L = L.flatMap fun b => [Value.bool b] := by
    clear hL hc hw
    induction L with
    | nil => rfl
    | cons b t ih => rw [List.flatMap_cons, ← ih]; rfl
  rw [e]
  exact hc
end
theorem idsRounds_walk (a0 : Option Addr) (l0 c0 : Nat) (z0 : List Int) (a1 : Option Addr) (l1 c1 : Nat) (z1 : List Int) (a2 : Option Addr) (l2 c2 : Nat) (z2 : List Bool) (w : World) (h0 : IsRow .u16 w a0 l0 c0 z0) (h1 : IsRow .i64 w a1 l1 c1 z1) (h2 : IsBls w a2 l2 c2 z2) :
    Calls Try.prog 5 #[.slice a0 l0 c0, .slice a1 l1 c1, .slice a2 l2 c2] w fun e w' => e = .returned (.bool true) ∧ Below w.heap.size w w' := by
  obtain ⟨r0, e0, q0, m0, _, wf0⟩ := h0.row
  obtain ⟨r1, e1, q1, m1, _, _⟩ := h1.row
  obtain ⟨e2, r2, q2, m2⟩ := h2
  unfold maxLen at m0 m1 m2
  rw [ints_nc wf0] at r0
  have e0' : ((z0.take l0).map Int.toNat).length = l0 := by rw [List.length_map, e0]
  have := idsRounds_at a0 c0 ((z0.take l0).map Int.toNat) a1 c1 (z1.take l1) a2 c2 z2 w r0 r1 r2 (by omega) (by omega) (by omega)
  rw [e0', e1, e2] at this
  exact this

end Go.Proofs.Ytlgbljohhnhhkaa
