/-
  Properties, and lists of them, as plain data and as cells.
-/
import Derived.Test.YtfhcmmmgnkinoaaDoorPrp
import Derived.Test.YtfhcmmmgnkinoaaDoorPutsB
namespace Go.Proofs.YtfhcmmmgnkinoaaDoor
open Go.RowKit
set_option linter.unusedVariables false
set_option linter.unusedSimpArgs false
set_option maxRecDepth 100000

structure Pr where
  id : Nat
  n : Nat
  a : ByteArray
  b : ByteArray
deriving DecidableEq
def Pr.cells (p : Pr) : List Value := [.int .u8 p.id, .int .u32 p.n, .string p.a, .string p.b]
def Pr.val (p : Pr) : Value := .agg #[.int .u8 p.id, .int .u32 p.n, .string p.a, .string p.b]
structure Pr.wf (p : Pr) : Prop where
  id : p.id < 256
  n : p.n < 4294967296
  a : p.a.size ≤ 9223372036854775807
  b : p.b.size ≤ 9223372036854775807
def Pr.zero : Pr := ⟨0, 0, ⟨#[]⟩, ⟨#[]⟩⟩
/-- Cells of a list. -/
def PC (L : List Pr) : List Value := L.flatMap Pr.cells
@[simp] theorem PC_nil : PC [] = [] := rfl
theorem PC_cons (p : Pr) (L : List Pr) : PC (p :: L) = p.cells ++ PC L := rfl
theorem PC_append (L M : List Pr) : PC (L ++ M) = PC L ++ PC M := by simp [PC]
theorem PC_one (p : Pr) : PC [p] = p.cells := by simp [PC]
theorem PC_length (L : List Pr) : (PC L).length = L.length * 4 := by
  induction L with
  | nil => rfl
  | cons p L ih => rw [PC_cons, List.length_append, ih]; simp [Pr.cells]; omega
theorem PC_cell1 (L : List Pr) : ∀ u ∈ PC L, u.oneCell' = true := by
  intro u hu
  obtain ⟨p, _, hp⟩ := List.mem_flatMap.1 hu
  simp [Pr.cells] at hp
  rcases hp with rfl | rfl | rfl | rfl <;> rfl
theorem PC_get (L : List Pr) : ∀ (k : Nat) (h : k < L.length), (PC L)[k * 4]? = some (.int .u8 L[k].id) ∧ (PC L)[k * 4 + 1]? = some (.int .u32 L[k].n) ∧ (PC L)[k * 4 + 2]? = some (.string L[k].a) ∧ (PC L)[k * 4 + 3]? = some (.string L[k].b) := by
  induction L with
  | nil => intro k h; simp at h
  | cons p L ih =>
    intro k h
    cases k with
    | zero => simp [PC_cons, Pr.cells]
    | succ k =>
      have h1 := ih k (by simpa using h)
      have e : (p.cells).length = 4 := rfl
      rw [PC_cons]
      refine ⟨?_, ?_, ?_, ?_⟩
      · rw [List.getElem?_append_right (by rw [e]; omega), e, show (k + 1) * 4 - 4 = k * 4 by omega]; simpa using h1.1
      · rw [List.getElem?_append_right (by rw [e]; omega), e, show (k + 1) * 4 + 1 - 4 = k * 4 + 1 by omega]; simpa using h1.2.1
      · rw [List.getElem?_append_right (by rw [e]; omega), e, show (k + 1) * 4 + 2 - 4 = k * 4 + 2 by omega]; simpa using h1.2.2.1
      · rw [List.getElem?_append_right (by rw [e]; omega), e, show (k + 1) * 4 + 3 - 4 = k * 4 + 3 by omega]; simpa using h1.2.2.2
/-- A property's cells in a row of them. -/
theorem Row.prop {w : World} {a : Option Addr} {L : List Pr} (h : Row w a (PC L)) {k : Nat} (hk : k < L.length) :
    ∃ b off, a = some ⟨b, off, none⟩ ∧ b < w.heap.size ∧ w.cell? ⟨b, off + k * 4, none⟩ = some (.int .u8 L[k].id) ∧ w.cell? ⟨b, off + k * 4 + 1, none⟩ = some (.int .u32 L[k].n) ∧ w.cell? ⟨b, off + k * 4 + 2, none⟩ = some (.string L[k].a) ∧ w.cell? ⟨b, off + k * 4 + 3, none⟩ = some (.string L[k].b) := by
  obtain ⟨h0, h1, h2, h3⟩ := PC_get L k hk
  rcases h with h | ⟨b, off, ha, hb, hc⟩
  · have := PC_length L; rw [h] at this; simp at this; omega
  · refine ⟨b, off, ha, hb, hc _ _ h0, ?_, ?_, ?_⟩
    · rw [Nat.add_assoc]; exact hc _ _ h1
    · rw [Nat.add_assoc]; exact hc _ _ h2
    · rw [Nat.add_assoc]; exact hc _ _ h3
/-- How many bytes a property has; which. -/
def szP (id n : Nat) (a b : ByteArray) : Nat :=
  if typL id = 1 then 2 else if typL id = 2 then 3 else if typL id = 3 then 5 else if typL id = 4 then 1 + (varL n).length
  else if typL id = 5 then 3 + a.size else if typL id = 6 then 3 + a.size else if typL id = 7 then 5 + a.size + b.size else 0
def layP (id n : Nat) (a b : ByteArray) : List UInt8 :=
  if typL id = 1 then addByte [byteOf id] n else if typL id = 2 then addTwo [byteOf id] n else if typL id = 3 then addFour [byteOf id] n else if typL id = 4 then addVar [byteOf id] n
  else if typL id = 7 then addBin (addBin [byteOf id] a) b else addBin [byteOf id] a
def Pr.size (p : Pr) : Nat := szP p.id p.n p.a p.b
def Pr.lay (p : Pr) : List UInt8 := layP p.id p.n p.a p.b
theorem addByte_len (l : List UInt8) (x : Nat) : (addByte l x).length = l.length + 1 := by simp [addByte]
theorem addTwo_len (l : List UInt8) (x : Nat) : (addTwo l x).length = l.length + 2 := by simp [addTwo]
theorem addFour_len (l : List UInt8) (x : Nat) : (addFour l x).length = l.length + 4 := by simp [addFour]
theorem addVar_len (l : List UInt8) (x : Nat) : (addVar l x).length = l.length + (varL x).length := by simp [addVar]
theorem addBin_len (l : List UInt8) (s : ByteArray) : (addBin l s).length = l.length + 2 + s.size := by
  simp [addBin]; omega
theorem varL_le (n : Nat) : (varL n).length ≤ 4 := by
  unfold varL
  split
  · rename_i h
    have := var7_len n h
    split at this <;> (try split at this) <;> (try split at this) <;> (try split at this) <;> omega
  · simp
theorem Lays.from {w0 w w' : World} {l : List UInt8} {e : Ending} (h : Lays w l e w') (hk : Kept No w0 w) : Lays w0 l e w' := by
  obtain ⟨g, cap, h1, h2, h3, h4⟩ := h
  have hs := hk.size
  refine ⟨g, cap, h1, by omega, ⟨h3.1, ?_⟩, hk.trans h4⟩
  rcases h3.2 with h | ⟨g', cap', cur, q1, q2, q3⟩
  · exact .inl h
  · exact .inr ⟨g', cap', cur, q1, by omega, q3⟩

end Go.Proofs.YtfhcmmmgnkinoaaDoor
