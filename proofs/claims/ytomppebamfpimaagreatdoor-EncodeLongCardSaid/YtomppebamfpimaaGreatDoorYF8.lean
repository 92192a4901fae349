import Derived.Test.YtomppebamfpimaaGreatDoorYF5
import Derived.Test.YtomppebamfpimaaGreatDoorYF6
import Derived.Test.YtomppebamfpimaaGreatDoorYF7
import Derived.Test.YtomppebamfpimaaGreatDoorYFN
import Derived.Test.YtomppebamfpimaaGreatDoorYF3
namespace Go.Proofs.YtomppebamfpimaaGreatDoor
open Go.RowKit
set_option linter.unusedVariables false
set_option linter.unusedSimpArgs false
set_option maxRecDepth 100000
def Blks (s : Nat) (Bs : List (List Pr)) : Prop := ∀ B ∈ Bs, B.length = s ∧ Srt B
structure Rst (L : List Pr) (s : Nat) (Bs : List (List Pr)) (R : List Pr) : Prop where
 blks : Blks s Bs
 ste : Ste L (Bs.flatten ++ R)
 len : Bs.flatten.length + R.length = L.length
theorem Rst.done {L : List Pr} {s : Nat} {Bs : List (List Pr)} {R : List Pr} (h : Rst L s Bs R) (hR : Srt R) (hs : L.length ≤ s) : sortL L = Bs.flatten ++ R := by
 refine sortL_eq ?_ h.ste
 cases Bs with
 | nil => simpa using hR
 | cons B t =>
  have h1 := h.len
  have h2 := (h.blks B (by simp)).1
  simp at h1
  have e1 : R = [] := List.length_eq_zero_iff.1 (by omega)
  have e2 : t.flatten = [] := List.length_eq_zero_iff.1 (by rw [List.length_flatten]; omega)
  rw [List.flatten_cons, e1, e2]
  simpa using (h.blks B (by simp)).2
def binBy (s : ByteArray) : List UInt8 := byteOf ((s.size : Int) / 256) :: byteOf ((s.size : Int) % 256) :: s.data.toList
theorem Pr.sm.wf' {p : Pr} (h : p.sm) : p.wf' := ⟨h.hid, h.hn, by have := h.ha; omega, by have := h.hb; omega⟩
def Fewp (L : List Pr) : Prop := L.length ≤ 30 ∧ ∀ p ∈ L, p.a.size ≤ 200 ∧ p.b.size ≤ 200
theorem Fewp.wf {L : List Pr} (h : Fewp L) (hw : ∀ p ∈ L, p.id < 256 ∧ p.n < 4294967296) : ∀ p ∈ L, p.wf' := fun p hp => ⟨(hw p hp).1, (hw p hp).2, by have := h.2 p hp; omega, by have := h.2 p hp; omega⟩
end Go.Proofs.YtomppebamfpimaaGreatDoor
