/-
  DecodeAgain, walked.
-/
import Derived.Test.YtdgmkcfkpknamaaGreatDoorZEr4
import Derived.Test.YtdgmkcfkpknamaaGreatDoorYH9
import Derived.Test.YtdgmkcfkpknamaaGreatDoorYH4
import Derived.Test.YtdgmkcfkpknamaaGreatDoorYI2
import Derived.Test.YtdgmkcfkpknamaaGreatDoorZPkd
namespace Go.Proofs.YtdgmkcfkpknamaaGreatDoor
open Go.RowKit
set_option linter.unusedVariables false
set_option linter.unusedSimpArgs false
set_option maxRecDepth 100000
set_option maxHeartbeats 8000000
def dq9a : Pk := { zk 4 with id := 7 }
theorem fe1a : decP 4 [64, 2, 0, 7] = dq9a ∧ decE 4 [64, 2, 0, 7] = 0 := by constructor <;> kernel_rfl
theorem fe2a : decP 5 [64, 3, 0, 7, 0] = dq9a ∧ decE 5 [64, 3, 0, 7, 0] = 0 := by constructor <;> kernel_rfl
theorem fe3a : decE 4 [64, 3, 0, 7, 0] = 3 := by kernel_rfl
theorem fe4a : decE 4 [64, 2, 0, 0] = 4 := by kernel_rfl
section
variable {c : World}
theorem ck_told9a (hT : Tabs c) : Ck Tryz.prog 16 [] c (.bool true) := by
  refine Ck.in Tryz.func16 ?_
  refine go ?_
  refine vbc [64, 2, 0, 7] fun c1 b1 l1 r1 => ?_
  have d1 := tn_Decode (v := 4) (n := 4) (hT.le l1) r1 (fun h => by cases h) (by decide) (by decide) (fun _ => (ok9_form (by decide)).fit)
  rw [fe1a.1, fe1a.2] at d1
  refine vtn d1 fun x1 c2 l2 ⟨p1, n1⟩ => ?_
  refine go ?_
  refine vA fun b2 => ?_
  refine go ?_
  refine vbc [64, 3, 0, 7, 0] fun c3 b3 l3 r3 => ?_
  have d3 := tn_Decode (v := 5) (n := 5) (((hT.le l1).le l2).le l3) r3 (fun h => by cases h) (by decide) (by decide) (fun _ => (ok9_form (by decide)).fit)
  rw [fe2a.1, fe2a.2] at d3
  refine vtn d3 fun x3 c4 l4 ⟨p3, n3⟩ => ?_
  refine go ?_
  refine vA fun b4 => ?_
  refine go ?_
  refine vbc [64, 3, 0, 7, 0] fun c5 b5 l5 r5 => ?_
  have d5 := tn_Decode (v := 4) (n := 5) (((((hT.le l1).le l2).le l3).le l4).le l5) r5 (fun h => by cases h) (by decide) (by decide) (fun _ => (ok9_form (by decide)).fit)
  rw [fe3a] at d5
  refine vtn d5 fun x5 c6 l6 ⟨p5, n5⟩ => ?_
  refine go ?_
  refine vA fun b6 => ?_
  refine go ?_
  refine vbc [64, 2, 0, 0] fun c7 b7 l7 r7 => ?_
  have d7 := tn_Decode (v := 4) (n := 4) (((((((hT.le l1).le l2).le l3).le l4).le l5).le l6).le l7) r7 (fun h => by cases h) (by decide) (by decide) (fun _ => (ok9_form (by decide)).fit)
  rw [fe4a] at d7
  refine vtn d7 fun x7 c8 l8 ⟨p7, n7⟩ => ?_
  refine go ?_
  refine vA fun b8 => ?_
  refine go ?_
  exact vrb rfl
end
section
variable {P : Program} {N : Nat} {L : List (Nat × Value)} {c : World} {x y : Operand} {t u t1 z1 : Nat} {o1 : List Nat} {p q : Bool}
/-- Two truths compared. -/
theorem qbe9 [Tbv P] (hx : lko L x = some (.bool p)) (hy : lko L y = some (.bool q)) (ht : fty (Tbv.ts P) t = some ⟨t1, false, z1, o1, .bo⟩) : Qo P N L c (.binOp .eql t x y u) (.bool (p == q)) :=
  ⟨fun A w o ho F hc => ex_bin ho (F.v hx) (F.v hy) (rn_beql (ty_bo ht))⟩
end
section
variable {c : World}
theorem ck_DecodeAgain (hT : Tabs c) {v : Int} {a : Option Addr} {n : Nat} {bs : List UInt8} (hr : Row c a (B8 bs)) (hn : a = none → n = 0) (hl : bs.length ≤ n) : Ck Tryz.prog 4 [.int .i64 v, .slice a bs.length n] c (.bool true) := by
  have hV : 4 + v % 18446744073709551616 % 2 = 4 ∨ 4 + v % 18446744073709551616 % 2 = 5 := by omega
  refine Ck.in Tryz.func4 ?_
  refine go ?_
  generalize 4 + v % 18446744073709551616 % 2 = V at *
  refine vmi ?_
  refine vslt fun al h1 h2 => ?_
  have hq : (min (bs.length : Int) 500).toNat = (bs.take (min (bs.length : Int) 500).toNat).length := by rw [List.length_take]; omega
  have hq2 : (bs.take (min (bs.length : Int) 500).toNat).length ≤ 500 := by rw [← hq]; omega
  have hq3 : (bs.take (min (bs.length : Int) 500).toNat).length ≤ n := by rw [← hq]; omega
  refine vle (v' := .slice al (bs.take (min (bs.length : Int) 500).toNat).length n) (by rw [← hq]) ?_
  generalize bs.take (min (bs.length : Int) 500).toNat = l at *
  clear hq
  refine go ?_
  refine vtn (tn_Decode (v := V) hT h1 h2 hq3 (by omega) (fun _ => (ok9_form (by omega)).fit)) fun sx c1 l1 ⟨g1, g2⟩ => ?_
  refine go ?_
  refine vA fun b6 => ?_
  have dt := ck_told9a (hT.le l1)
  by_cases hE : decE V l = 0
  case neg =>
    repeat' first | refine go ?_ | refine vg (fun _ => ?_) fun _ => ?_ | refine vc (fun _ => ?_) fun _ => ?_ | fail
    exact vrb rfl
  obtain ⟨hF, hR, hL, hlen, e1, e2⟩ := dec_again (v := V) (by omega) hE
  obtain ⟨f1, f2⟩ := few_dec V l
  rw [hE]
  generalize decP V l = P at *
  have hT1 := hT.le l1
  have te := tn_Encode hT1 V P sx g1 g2 hF
  rw [show eN V P = 0 from if_pos hR] at te
  refine go ?_
  refine vtn te fun y c2 l2 o2 => ?_
  have td := tn_Decode (v := V) (hT1.le l2) o2.row o2.nil o2.le (by omega) (fun _ => (ok9_form (by omega)).fit)
  rw [e1, e2] at td
  refine go ?_
  refine vtn td fun sy c3 l3 ⟨g3, g4⟩ => ?_
  refine go ?_
  refine vA fun b10 => ?_
  refine go ?_
  refine vtn (tn_From7 P sx (g1.le (l2.trans l3)) hF.few g2) fun sz c4 l4 ⟨g5, g6⟩ => ?_
  try refine go ?_
  refine vtn (tn_rEncode (v := V) P sz g5 g6 hF hR hL (by omega) (by omega) (by omega)) fun z c5 l5 o5 => ?_
  refine go ?_
  refine vh [0, 1] ?_
  refine go ?_
  repeat' first
    | refine go ?_
    | refine vqx 0 ?_
    | refine vqtn (tn_From7 P sx (g1.le (((l2.trans l3).trans l4).trans l5)) hF.few g2) fun su c6 l6 ⟨g7, g8⟩ => ?_
    | fail
  refine vqtn (tn_From7 P sy (g3.le ((l4.trans l5).trans l6)) hF.few g4) fun sw c7 l7 ⟨g9, g10⟩ => ?_
  have cs := ck_rSame P P su sw (g7.le l7) g9 hF.few hF.few g8 g10
  rw [decide_eq_true rfl] at cs
  have r1 := o2.row.le ((l3.trans l4).trans l5)
  have r2 := h1.le ((((l1.trans l2).trans l3).trans l4).trans l5)
  have r3 := o5.row
  have n1 := o2.nil
  have n3 := o5.nil
  have hle : ((encL V P).length : Int) ≤ (l.length : Int) := by omega
  repeat' first | refine go ?_ | refine vqx 0 ?_ | refine vqgT ?_ | refine vqx 0 ?_ (h := qh_q (qbe9 rfl rfl rfl)) | fail
  refine vrb ?_
  simp
end
end Go.Proofs.YtdgmkcfkpknamaaGreatDoor
