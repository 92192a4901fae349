/-
  Arguments of the laws of layer 11 opened.
-/
import Derived.Test.YtlgbljohhnhhkaaIdA
import Derived.Deep.Slices
import Derived.ChangeArms
import Derived.ChangeSame
namespace Go.Proofs.Ytlgbljohhnhhkaa
open Go.RowKit Go.ChangeShapes Go.WideShapes Go.Deep
set_option linter.unusedVariables false
set_option linter.unusedSimpArgs false
set_option maxRecDepth 100000

/-- Something that is done, of the law. -/
structure Opx where
  open_ : Bool
  kind : Int
  id : Nat
  st : Int
  failed : Bool
  n : Int
def Opx.cells (p : Opx) : List Value := [.bool p.open_, .int .i64 p.kind, .int .u16 p.id, .int .i64 p.st, .bool p.failed, .int .i64 p.n]
def OC (L : List Opx) : List Value := L.flatMap Opx.cells
theorem OC_length (L : List Opx) : (OC L).length = L.length * 6 := by
  induction L with
  | nil => rfl
  | cons p L ih => rw [show OC (p :: L) = p.cells ++ OC L from rfl, List.length_append, ih]; simp [Opx.cells]; omega
theorem OC_get (L : List Opx) : ∀ (k : Nat) (h : k < L.length) (j : Nat), j < 6 → (OC L)[k * 6 + j]? = (L[k].cells)[j]? := by
  induction L with
  | nil => intro k h; simp at h
  | cons p L ih =>
    intro k h j hj
    have e : (p.cells).length = 6 := rfl
    rw [show OC (p :: L) = p.cells ++ OC L from rfl]
    cases k with
    | zero => rw [Nat.zero_mul, Nat.zero_add, List.getElem?_append_left (by omega)]; rfl
    | succ k =>
      rw [List.getElem?_append_right (by rw [e]; omega), e, show (k + 1) * 6 + j - 6 = k * 6 + j by omega, ih k (by simpa using h) j hj]
      rfl
theorem Row.opx {w : World} {a : Option Addr} {L : List Opx} (h : Row w a (OC L)) {k : Nat} (hk : k < L.length) :
    ∃ b off, a = some ⟨b, off, none⟩ ∧ b < w.heap.size ∧ w.cell? ⟨b, off + k * 6, none⟩ = some (.bool L[k].open_) ∧ w.cell? ⟨b, off + k * 6 + 1, none⟩ = some (.int .i64 L[k].kind) ∧ w.cell? ⟨b, off + k * 6 + 2, none⟩ = some (.int .u16 L[k].id)
      ∧ w.cell? ⟨b, off + k * 6 + 3, none⟩ = some (.int .i64 L[k].st) ∧ w.cell? ⟨b, off + k * 6 + 4, none⟩ = some (.bool L[k].failed) ∧ w.cell? ⟨b, off + k * 6 + 5, none⟩ = some (.int .i64 L[k].n) := by
  have g := OC_get L k hk
  rcases h with h | ⟨b, off, ha, hb, hc⟩
  · have := OC_length L; rw [h] at this; simp at this; omega
  · refine ⟨b, off, ha, hb, ?_, ?_, ?_, ?_, ?_, ?_⟩
    · exact hc (k * 6) _ (by have := g 0 (by decide); rw [Nat.add_zero] at this; rw [this]; rfl)
    · rw [Nat.add_assoc]; exact hc _ _ ((g 1 (by decide)).trans rfl)
    · rw [Nat.add_assoc]; exact hc _ _ ((g 2 (by decide)).trans rfl)
    · rw [Nat.add_assoc]; exact hc _ _ ((g 3 (by decide)).trans rfl)
    · rw [Nat.add_assoc]; exact hc _ _ ((g 4 (by decide)).trans rfl)
    · rw [Nat.add_assoc]; exact hc _ _ ((g 5 (by decide)).trans rfl)

section
variable {H : Type} {enc : TypeId × Value → H} {w : World} {base : Nat} {spare : Nat → Bool} {held : Bool}
/-- An element of k one-cell fields, from its cells. -/
theorem field_at {P : Program} {e : TypeId} {fs : Array Field} {n : Nat} {cs : List Value} {x : DataW H × List MemPlace} (he : P.underlying e = some (.struct fs)) (h : DataW.trod enc P w base spare held n e cs = some x)
    {j : Nat} {f : Field} (hj : fs[j]? = some f) (ho : f.offset = j) (hc : P.cellsOf f.type = 1) (hjl : j < cs.length) : ∃ k y, DataW.trod enc P w base spare held k f.type [cs[j]] = some y := by
  obtain ⟨xs, k, _, _, _, hxl, hf⟩ := DataW.trod_struct he h
  have h1 := hf j f hj
  rw [ho, hc] at h1
  have e1 : (cs.drop j).take 1 = [cs[j]] := by
    rw [List.drop_eq_getElem_cons hjl]
    rfl
  rw [e1] at h1
  have hjx : j < xs.length := by rw [hxl]; exact (Array.getElem?_eq_some_iff.1 hj).1
  rw [List.getElem?_eq_getElem hjx] at h1
  exact ⟨_, _, h1⟩
/-- Elements of s cells each, one behind the other. -/
theorem rows_of {α : Type} (cells : α → List Value) (s : Nat) (hs : ∀ p, (cells p).length = s) (Pw : α → Prop) (ad : Addr) (len : Nat) (each : ∀ i, i < len → ∃ p, (∀ j u, (cells p)[j]? = some u → w.cell? (ad.add (i * s + j)) = some u) ∧ Pw p) :
    ∃ L : List α, L.length = len ∧ (∀ j u, (L.flatMap cells)[j]? = some u → w.cell? (ad.add j) = some u) ∧ ∀ p ∈ L, Pw p := by
  have hfl : ∀ L : List α, (L.flatMap cells).length = L.length * s := by
    intro L
    induction L with
    | nil => simp
    | cons p L ih => rw [List.flatMap_cons, List.length_append, ih, hs, List.length_cons, Nat.add_mul, Nat.one_mul, Nat.add_comm]
  have go : ∀ k, k ≤ len → ∃ L : List α, L.length = k ∧ (∀ j u, (L.flatMap cells)[j]? = some u → w.cell? (ad.add j) = some u) ∧ ∀ p ∈ L, Pw p := by
    intro k
    induction k with
    | zero => intro _; exact ⟨[], rfl, by simp, by simp⟩
    | succ k ih =>
      intro hk
      obtain ⟨L, hL, hc, hw⟩ := ih (by omega)
      obtain ⟨p, hp, hpw⟩ := each k (by omega)
      refine ⟨L ++ [p], by simp [hL], fun j u hu => ?_, fun q hq => ?_⟩
      · rw [List.flatMap_append] at hu
        by_cases hj : j < (L.flatMap cells).length
        · rw [List.getElem?_append_left hj] at hu
          exact hc j u hu
        · rw [List.getElem?_append_right (by omega)] at hu
          have hz := hfl L
          rw [hL] at hz
          rw [hz] at hu hj
          have := hp (j - k * s) u (by simpa using hu)
          rwa [show k * s + (j - k * s) = j by omega] at this
      · rcases List.mem_append.1 hq with h | h
        · exact hw q h
        · rw [List.mem_singleton.1 h]; exact hpw
  exact go len (Nat.le_refl _)
/-- A list lies there. -/
structure IsRws (w : World) (a : Option Addr) (len cap : Nat) (L : List Rw) : Prop where
  hlen : L.length = len
  hrow : Row w a (RC L)
  hle : len ≤ cap
  hcap : cap ≤ maxLen
  hnil : a = none → len = 0 ∧ cap = 0
structure IsOps (w : World) (a : Option Addr) (len cap : Nat) (L : List Opx) : Prop where
  hlen : L.length = len
  hrow : Row w a (OC L)
  hle : len ≤ cap
  hcap : cap ≤ maxLen
set_option maxHeartbeats 1000000 in
theorem open_rws {cs : List Value} {x : DataW H × List MemPlace} {fuel : Nat} (h : DataW.trod enc Try.prog w base spare held fuel 22 cs = some x) :
    ∃ a len cap L, cs = [.slice a len cap] ∧ IsRws w a len cap L := by
  rcases open_slice Try.underlying22 h with ⟨rfl, _⟩ | ⟨ad, len, cap, m, n, D, Pl, rfl, hb, hl, hm, hmm, rfl, hx⟩
  · exact ⟨none, 0, 0, [], rfl, rfl, .nil _ _, Nat.le_refl _, by simp, fun _ => ⟨rfl, rfl⟩⟩
  have hlm : len ≤ m := by rw [hmm]; split <;> omega
  have ce : Try.prog.cellsOf 49 = 3 := by kernel_rfl
  have each : ∀ i, i < m → ∃ p : Rw, (∀ j u, p.cells[j]? = some u → w.cell? (ad.add (i * 3 + j)) = some u) ∧ True := by
    intro i hi
    obtain ⟨cs', h1, h2⟩ := hx i hi
    rw [ce] at h1
    obtain ⟨_, hlen, hcell⟩ := World.cells?_some h1
    obtain ⟨k0, y0, t0⟩ := field_at (j := 0) Try.underlying49 h2 rfl rfl (by kernel_rfl) (by omega)
    obtain ⟨k1, y1, t1⟩ := field_at (j := 1) Try.underlying49 h2 rfl rfl (by kernel_rfl) (by omega)
    obtain ⟨k2, y2, t2⟩ := field_at (j := 2) Try.underlying49 h2 rfl rfl (by kernel_rfl) (by omega)
    obtain ⟨x0, e0, _, w0⟩ := DataW.trod_int Try.underlying30 t0
    obtain ⟨x1, e1, _, w1⟩ := DataW.trod_int Try.underlying3 t1
    obtain ⟨x2, e2, _, w2⟩ := DataW.trod_int Try.underlying3 t2
    have b0 := bounds_u16 w0
    obtain ⟨n0, rfl⟩ := Int.eq_ofNat_of_zero_le b0.1
    simp at e0 e1 e2
    refine ⟨⟨n0, x1, x2⟩, fun j u hu => ?_, trivial⟩
    have hj : j < 3 := (List.getElem?_eq_some_iff.1 hu).1
    have hc := hcell j hj
    rw [← Go.Deep.add_add, hc]
    match j, hj with
    | 0, _ => rw [List.getElem?_eq_getElem (by omega), e0]; exact hu
    | 1, _ => rw [List.getElem?_eq_getElem (by omega), e1]; exact hu
    | 2, _ => rw [List.getElem?_eq_getElem (by omega), e2]; exact hu
  obtain ⟨L, hL, hc, hw⟩ := rows_of Rw.cells 3 (fun _ => rfl) (fun p => True) ad len (fun i hi => each i (by omega))
  exact ⟨some ad, len, cap, L, rfl, hL, .of_cells hc, hl, hm, (fun h => by cases h)⟩
set_option maxHeartbeats 1000000 in
theorem open_ops {cs : List Value} {x : DataW H × List MemPlace} {fuel : Nat} (h : DataW.trod enc Try.prog w base spare held fuel 29 cs = some x) :
    ∃ a len cap L, cs = [.slice a len cap] ∧ IsOps w a len cap L := by
  rcases open_slice Try.underlying29 h with ⟨rfl, _⟩ | ⟨ad, len, cap, m, n, D, Pl, rfl, hb, hl, hm, hmm, rfl, hx⟩
  · exact ⟨none, 0, 0, [], rfl, rfl, .nil _ _, Nat.le_refl _, by simp⟩
  have hlm : len ≤ m := by rw [hmm]; split <;> omega
  have ce : Try.prog.cellsOf 32 = 6 := by kernel_rfl
  have each : ∀ i, i < m → ∃ p : Opx, (∀ j u, p.cells[j]? = some u → w.cell? (ad.add (i * 6 + j)) = some u) ∧ True := by
    intro i hi
    obtain ⟨cs', h1, h2⟩ := hx i hi
    rw [ce] at h1
    obtain ⟨_, hlen, hcell⟩ := World.cells?_some h1
    obtain ⟨k0, y0, t0⟩ := field_at (j := 0) Try.underlying32 h2 rfl rfl (by kernel_rfl) (by omega)
    obtain ⟨k1, y1, t1⟩ := field_at (j := 1) Try.underlying32 h2 rfl rfl (by kernel_rfl) (by omega)
    obtain ⟨k2, y2, t2⟩ := field_at (j := 2) Try.underlying32 h2 rfl rfl (by kernel_rfl) (by omega)
    obtain ⟨k3, y3, t3⟩ := field_at (j := 3) Try.underlying32 h2 rfl rfl (by kernel_rfl) (by omega)
    obtain ⟨k4, y4, t4⟩ := field_at (j := 4) Try.underlying32 h2 rfl rfl (by kernel_rfl) (by omega)
    obtain ⟨k5, y5, t5⟩ := field_at (j := 5) Try.underlying32 h2 rfl rfl (by kernel_rfl) (by omega)
    obtain ⟨x0, e0, _⟩ := DataW.trod_bool Try.underlying4 t0
    obtain ⟨x1, e1, _, w1⟩ := DataW.trod_int Try.underlying3 t1
    obtain ⟨x2, e2, _, w2⟩ := DataW.trod_int Try.underlying30 t2
    obtain ⟨x3, e3, _, w3⟩ := DataW.trod_int Try.underlying3 t3
    obtain ⟨x4, e4, _⟩ := DataW.trod_bool Try.underlying4 t4
    obtain ⟨x5, e5, _, w5⟩ := DataW.trod_int Try.underlying3 t5
    have b2 := bounds_u16 w2
    obtain ⟨n2, rfl⟩ := Int.eq_ofNat_of_zero_le b2.1
    simp at e0 e1 e2 e3 e4 e5
    refine ⟨⟨x0, x1, n2, x3, x4, x5⟩, fun j u hu => ?_, trivial⟩
    have hj : j < 6 := (List.getElem?_eq_some_iff.1 hu).1
    have hc := hcell j hj
    rw [← Go.Deep.add_add, hc]
    match j, hj with
    | 0, _ => rw [List.getElem?_eq_getElem (by omega), e0]; exact hu
    | 1, _ => rw [List.getElem?_eq_getElem (by omega), e1]; exact hu
    | 2, _ => rw [List.getElem?_eq_getElem (by omega), e2]; exact hu
    | 3, _ => rw [List.getElem?_eq_getElem (by omega), e3]; exact hu
    | 4, _ => rw [List.getElem?_eq_getElem (by omega), e4]; exact hu
    | 5, _ => rw [List.getElem?_eq_getElem (by omega), e5]; exact hu
  obtain ⟨L, hL, hc, hw⟩ := rows_of Opx.cells 6 (fun _ => rfl) (fun p => True) ad len (fun i hi => each i (by omega))
  exact ⟨some ad, len, cap, L, rfl, hL, .of_cells hc, hl, hm⟩
end
end Go.Proofs.Ytlgbljohhnhhkaa
