import Derived.Test.YtddolflgnfhfmaaGreatDoorZHxF4
import Derived.Test.YtddolflgnfhfmaaGreatDoorZHxF5
import Derived.Test.YtddolflgnfhfmaaGreatDoorYFUB
import Derived.Test.YtddolflgnfhfmaaGreatDoorZH9b
import Derived.Test.YtddolflgnfhfmaaGreatDoorZHto
namespace Go.Proofs.YtddolflgnfhfmaaGreatDoor
open Go.RowKit
set_option linter.unusedVariables false
set_option linter.unusedSimpArgs false
set_option maxRecDepth 100000
def FixR (v : Int) (vv : Value) (ww : World) : Prop := ∃ q s1, vv = Pk.val q s1 ∧ q.At s1 ww ∧ Fine 40 q ∧ rightD v q = true ∧ (s1.ca = none → q.codes.length = 0 ∧ s1.cc = 0)
theorem fix7_full (v : Int) (p : Pk) (s : Sl) (w : World) (hv : v = 4 ∨ v = 5) (hp : p.At s w) (hY : Any p) :
  Calls Tryz.prog 15 #[.int .i64 v, p.val s] w fun e w' => ∃ vv, e = .returned vv ∧ FixR v vv w' ∧ Kept No w w' := by
 have key : ∀ e w', FixIs v w e w' → ∃ vv, e = .returned vv ∧ FixR v vv w' ∧ Kept No w w' := by
  rintro e w' ⟨q, s', rfl, hA, ⟨Q, rfl, hQ⟩, hc, hk⟩
  exact ⟨_, rfl, ⟨_, _, rfl, hA, hQ.fineQ.bare, hQ.right hv, hc⟩, hk⟩
 rcases hv with rfl | rfl
 ·exact (fix7_4 p s w hp hY).mono key
 ·exact (fix7_5 p s w hp hY).mono key
end Go.Proofs.YtddolflgnfhfmaaGreatDoor
