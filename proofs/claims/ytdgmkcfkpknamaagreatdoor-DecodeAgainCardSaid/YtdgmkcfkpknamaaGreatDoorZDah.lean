/-
  DecodeAgain's walk, as its frame wants it.
-/
import Derived.Test.YtdgmkcfkpknamaaGreatDoorZDag
namespace Go.Proofs.YtdgmkcfkpknamaaGreatDoor
open Go.RowKit
set_option linter.unusedVariables false
theorem decodeAgain_full (v : Int) (a1 : Option Addr) (len1 cap1 : Nat) (z1 : List Int) (w : World) (w0 : (Lit.int .i64 v).wf = true) (w1 : IsRow .u8 w a1 len1 cap1 z1) (hT : Tabs w) :
    Calls Tryz.prog 4 #[.int .i64 v, .slice a1 len1 cap1] w fun e w' => e = .returned (.bool true) ∧ Below w.heap.size w w' := by
  obtain ⟨hrow, hlen, hlc, hcm, hn, hwf⟩ := w1.row
  rw [ints_bytes hwf] at hrow
  have hlen' : ((z1.take len1).map byteOf).length = len1 := by simpa using hlen
  have h := (ck_DecodeAgain (c := w) hT (v := v) hrow hn (by rw [hlen']; exact hlc)).h w (Le.refl w)
  rw [hlen'] at h
  exact h.mono fun e w' h => ⟨h.1, h.2.below (Nat.le_refl _) (fun _ _ => id)⟩
end Go.Proofs.YtdgmkcfkpknamaaGreatDoor
