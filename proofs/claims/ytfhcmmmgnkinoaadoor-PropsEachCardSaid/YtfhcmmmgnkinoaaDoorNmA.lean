/-
  The topic texts, and own rows that are kept.
-/
import Derived.Test.YtfhcmmmgnkinoaaDoorTopC
namespace Go.Proofs.YtfhcmmmgnkinoaaDoor
open Go.RowKit
set_option linter.unusedVariables false
set_option linter.unusedSimpArgs false

theorem own_keptNo {w w' : World} {base : Nat} {e : TypeId} {size n : Nat} {v : Value} {xs : List Value} (h : w.ownsRow base e size v n xs) (hk : Kept No w w') : w'.ownsRow base e size v n xs := by
  refine ⟨h.1, ?_⟩
  rcases h.2 with hn | ⟨g, cap, cur, hv, hb, hg, rest⟩
  · exact .inl hn
  · exact .inr ⟨g, cap, cur, hv, hb, (hk.block g (Array.getElem?_eq_some_iff.1 hg).1 (fun f => f)).trans hg, rest⟩

end Go.Proofs.YtfhcmmmgnkinoaaDoor
