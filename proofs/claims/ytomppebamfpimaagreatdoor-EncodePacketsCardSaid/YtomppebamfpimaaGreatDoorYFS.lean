import Derived.Test.YtomppebamfpimaaGreatDoorYF8
import Derived.Test.YtomppebamfpimaaGreatDoorYF9
import Derived.Test.YtomppebamfpimaaGreatDoorYFR
import Derived.Test.YtomppebamfpimaaGreatDoorYFJ
namespace Go.Proofs.YtomppebamfpimaaGreatDoor
open Go.RowKit
set_option linter.unusedVariables false
set_option linter.unusedSimpArgs false
set_option maxRecDepth 100000
structure FixOk (k : Int) (out : List Pr) : Prop where
 val : ∀ p ∈ out, valueB p.id p.n p.a p.b = true ∧ forB p.id k = true ∧ p.id < 256 ∧ p.n < 4294967296 ∧ p.a.size ≤ 32 ∧ p.b.size ≤ 32
 once : ∀ i, 2 ≤ (idf i out).length → oftenB i k = true
end Go.Proofs.YtomppebamfpimaaGreatDoor
