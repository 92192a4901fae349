/-
  Contracts of package topic: covers, Match.
-/
import Derived.Test.YtfhcmmmgnkinoaaDoorTopF
namespace Go.Proofs.YtfhcmmmgnkinoaaDoor
open Go.RowKit
set_option linter.unusedVariables false
set_option linter.unusedSimpArgs false

theorem strs_at {w : World} {a : Option Addr} {L : List (List UInt8)} (h : Row w a (strsL L)) (j : Nat) (hj : j < L.length) : ∃ b off, a = some ⟨b, off, none⟩ ∧ w.cell? ⟨b, off + j, none⟩ = some (.string ⟨L[j].toArray⟩) := by
  obtain ⟨b, off, ha, hb, hc⟩ := h.at_ (k := j) (by simpa [strsL] using hj)
  refine ⟨b, off, ha, ?_⟩
  rw [hc]
  simp [strsL]

theorem covers_rest (fs ns : List (List UInt8)) : coversL ([35] :: fs) ns = true := by cases ns <;> simp [coversL]
theorem covers_end {f : List UInt8} (h : ¬ f = [35]) (fs : List (List UInt8)) : coversL (f :: fs) [] = false := by simp [coversL, h]
theorem covers_step {f : List UInt8} (h : ¬ f = [35]) (fs : List (List UInt8)) (n : List UInt8) (t : List (List UInt8)) : coversL (f :: fs) (n :: t) = ((decide (f = [43]) || decide (f = n)) && coversL fs t) := by simp [coversL, h]

end Go.Proofs.YtfhcmmmgnkinoaaDoor
