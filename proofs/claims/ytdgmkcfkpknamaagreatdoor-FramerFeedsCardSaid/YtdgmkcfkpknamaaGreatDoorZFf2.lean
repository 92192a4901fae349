/-
  FramerFeeds' walk, as its frame wants it.
-/
import Derived.Test.YtdgmkcfkpknamaaGreatDoorZFf1
namespace Go.Proofs.YtdgmkcfkpknamaaGreatDoor
open Go.RowKit
set_option linter.unusedVariables false
theorem framerFeeds_full (v m : Int) (b : Bool) (a2 : Option Addr) (n2 c2 : Nat) (z : (Nat → Option Addr) × (Nat → List UInt8) × (Nat → Nat)) (w : World) (w00 : (Lit.int .i64 v).wf = true) (w01 : (Lit.int .i64 m).wf = true) (w2 : IsBss w a2 n2 c2 z) (hT : Tabs w) :
    Calls Tryz.prog 6 #[.agg #[(.int .i64 v), (.int .i64 m), (.bool b)], .slice a2 n2 c2] w fun e w' => e = .returned (.bool true) ∧ Below w.heap.size w w' :=
  ((ck_FramerFeeds (c := w) hT (v := v) (m := m) (F := b) w2).h w (Le.refl w)).mono fun e w' h => ⟨h.1, h.2.below (Nat.le_refl _) (fun _ _ => id)⟩
end Go.Proofs.YtdgmkcfkpknamaaGreatDoor
