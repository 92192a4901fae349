/-
  told of layer 11.
-/
import Derived.Test.YtlgbljohhnhhkaaIdK
import Derived.Test.YtlgbljohhnhhkaaIdL
namespace Go.Proofs.Ytlgbljohhnhhkaa
open Go.RowKit
set_option linter.unusedVariables false
set_option linter.unusedSimpArgs false
set_option maxRecDepth 100000

def TabN (n : Nat) (L : List Rw) (z : Int) (w : World) (e : Ending) (w' : World) : Prop :=
  ∃ a c, e = .returned (.tuple #[.slice a n c, .int .i64 z]) ∧ Tb w' a c L ∧ Kept No w w'
theorem TabIs.num {R : List Rw × Int} {w w' : World} {e : Ending} (h : TabIs R w e w') {n : Nat} {L : List Rw} {z : Int} (hR : R = (L, z)) (hn : L.length = n) : TabN n L z w e w' := by
  subst hR hn
  exact h
def L72 : List Rw := [⟨7, 2, 0⟩]
def L73 : List Rw := [⟨7, 3, 0⟩]
def L74 : List Rw := [⟨7, 4, 0⟩]
set_option maxHeartbeats 4000000 in
theorem told11_any (w : World) : Calls Try.prog 7 #[] w (RightIs true w) := by
  have C1 := Lib.hid (fun wx => (iopen_any none 0 [] 7 2 0 wx (tb_nil wx) rfl (by decide)).mono (fun e w' h => h.num (L := L72) (z := 0) (n := 1) (by decide) rfl))
  have C2 := Lib.hid (fun wx a c h => (iturn_any a c L72 5 7 false 0 wx h rfl (by decide)).mono (fun e w' h => h.num (L := L73) (z := 0) (n := 1) (by decide) rfl))
  have C3 := Lib.hid (fun wx a c h => (iturn_any a c L73 6 7 false 0 wx h rfl (by decide)).mono (fun e w' h => h.num (L := L74) (z := 0) (n := 1) (by decide) rfl))
  have C4 := Lib.hid (fun wx a c h => (iturn_any a c L74 7 7 false 0 wx h rfl (by decide)).mono (fun e w' h => h.num (L := []) (z := 0) (n := 0) (by decide) rfl))
  have C5 := Lib.hid (fun wx a c h => (iopen_any a c L74 7 1 0 wx h rfl (by decide)).mono (fun e w' h => h.num (L := L74) (z := 7) (n := 1) (by decide) rfl))
  have C6 := Lib.hid (fun wx a c (h : Tb wx a c L74) => (show Calls Try.prog 17 #[.slice a 1 c] wx (FlyIs 1 wx) from iflying_any a c L74 wx h.row (by decide) (by decide)))
  go_enter Try.func7, Try.ntmps7
  go_wp2_with fail
  go_at_call 12
  refine (C1.out _).mono ?_
  rintro e w1 ⟨a1, c1, rfl, ht1, hk1⟩
  go_wp2_with fail
  go_at_call 14
  refine (C2.out _ _ _ ht1).mono ?_
  rintro e w2 ⟨a2, c2, rfl, ht2, hk2⟩
  go_wp2_with fail
  go_at_call 14
  refine (C3.out _ _ _ ht2).mono ?_
  rintro e w3 ⟨a3, c3, rfl, ht3, hk3⟩
  go_wp2_with fail
  go_at_call 14
  refine (C4.out _ _ _ ht3).mono ?_
  rintro e w4 ⟨a4, c4, rfl, ht4, hk4⟩
  go_wp2_with fail
  go_at_call 12
  refine (C5.out _ _ _ (ht3.keptNo hk4)).mono ?_
  rintro e w5 ⟨a5, c5, rfl, ht5, hk5⟩
  have ht6 := ht3.keptNo (hk4.trans hk5)
  obtain ⟨b, off, ha, hb, q0, q1, q2⟩ := ht6.row.rw3 (k := 0) (by decide)
  subst ha
  simp only [Nat.zero_mul, Nat.add_zero] at q1
  have q1' : w5.cell? ⟨b, off + 1, none⟩ = some (.int .i64 4) := q1
  have HT6 := Lib.hid ht6
  clear q0 q1 q2 ht6 ht1 ht2 ht3 ht4 ht5
  go_wp2_with (go_at_call 17; refine (C6.out _ _ _ HT6.out).mono ?_; rintro e w6 ⟨rfl, hk6⟩)
  go_ret
  exact ⟨rfl, (((((hk1.trans hk2).trans hk3).trans hk4).trans hk5).trans hk6)⟩

end Go.Proofs.Ytlgbljohhnhhkaa
