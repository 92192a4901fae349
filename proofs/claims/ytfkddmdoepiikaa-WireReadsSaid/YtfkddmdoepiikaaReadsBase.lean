/-
  The walk of WireReads.
-/
import Derived.Test.YtfkddmdoepiikaaGreatWalk
namespace Go.Proofs.Ytfkddmdoepiikaa
open Go.RowKit
set_option linter.unusedVariables false
set_option linter.unusedSimpArgs false

/-- A slice of pairs of numbers that came in. -/
def IsPairs (w : World) (a : Option Addr) (len cap : Nat) (z : List (Int × Int)) : Prop :=
  z.length = len ∧ len ≤ cap ∧ cap ≤ maxLen ∧ (len = 0 ∨ ∃ b off, a = some ⟨b, off, none⟩ ∧ b < w.heap.size ∧ ∀ i, i < len → w.cell? ⟨b, off + i * 2, none⟩ = some (.int .i64 (z.getD i (0, 0)).1) ∧ w.cell? ⟨b, off + i * 2 + 1, none⟩ = some (.int .i64 (z.getD i (0, 0)).2))

def LenIs (l : List UInt8) (m : Nat) : Prop := l.length = m
def Two2 (r s : Nat) : Nat → Prop := fun i => i = r ∨ i = s

/-- What one round needs of the two Readers: both tell the same, and are in the same state behind it. -/
structure Both (w0 w : World) (r s : Nat) (B : ByteArray) (l : List UInt8) (err : Int) : Prop where
  one : Rdr w r l err
  two : RefR w s B l err
  kept : Kept (Two2 r s) w0 w
theorem Both.step1 {w0 w w' : World} {r s : Nat} {B : ByteArray} {l l' : List UInt8} {err err' : Int} (h : Both w0 w r s B l err) (hne : r ≠ s) (ha : After w w' r l' err') :
    Rdr w' r l' err' ∧ RefR w' s B l err ∧ Kept (Two2 r s) w0 w' :=
  ⟨ha.rdr, h.two.kept ha.kept (fun e => hne (show s = r from e).symm), h.kept.trans (ha.kept.mono fun k _ e => .inl e)⟩
theorem Both.step2 {w0 w w' : World} {r s : Nat} {B : ByteArray} {l l' : List UInt8} {err err' : Int} (h : Rdr w r l' err' ∧ RefR w s B l err ∧ Kept (Two2 r s) w0 w) (hne : r ≠ s) (ha : RAfter w w' s B l' err') : Both w0 w' r s B l' err' :=
  ⟨h.1.kept ha.kept hne (fun b hb _ => by have e : b = s := hb; rw [e]; exact h.2.1.noByte), ha.rdr, h.2.2.trans (ha.kept.mono fun k _ e => .inr e)⟩
theorem Both.drew {w0 w : World} {r s : Nat} {B : ByteArray} {l : List UInt8} {err : Int} (h : Both w0 w r s B l err) : Both w0 w.drew r s B l err :=
  ⟨h.one.keptNo ((Kept.refl No w).drew), h.two.kept ((Kept.refl No w).drew) (fun f => f), h.kept.drew⟩
theorem Both.after {w0 w w' : World} {r s : Nat} {B : ByteArray} {l : List UInt8} {err : Int} {A : Prop} (h : A ∧ Both w0 w r s B l err) (hne : r ≠ s) (ha : RAfter w w' s B l err) : w'.cell? ⟨s, 2, none⟩ = some (.int .i64 err) ∧ Both w0 w' r s B l err := by
  obtain ⟨a, _, _, h3⟩ := ha.rdr.cells
  exact ⟨h3, Both.step2 ⟨h.2.one, h.2.two, h.2.kept⟩ hne ha⟩
theorem refvar_any (w : World) (r : Nat) (B : ByteArray) (l : List UInt8) (err : Int) (h : RefR w r B l err) :
    Calls Try.prog 15 #[.pointer (some ⟨r, 0, none⟩)] w (RrvIs (rv 4 0 0 l err) w r B) := by
  by_cases he : err = 0
  · subst he; exact refvar_ok w r B l h
  · exact refvar_bad w r B l err h he

end Go.Proofs.Ytfkddmdoepiikaa
