/-
  The document's Encode, walked: connect, Behind, Encode.
-/
import Derived.Test.YtdgmkcfkpknamaaGreatDoorYJ5
namespace Go.Proofs.YtdgmkcfkpknamaaGreatDoor
open Go.RowKit
set_option linter.unusedVariables false
set_option linter.unusedSimpArgs false
set_option maxRecDepth 100000
set_option maxHeartbeats 8000000
section
variable {P : Program} {ops : Array Oper} {Q : Kn} {N n i fuel : Nat} {listed listed' : List Bool} {L : List (Nat × Value)} {cH c : World} {H M : List Bl} {R : List Rwv} {ty : TypeId} {ps : String} {af : Array Edge} {gd : Option (Nat × Bool)}
/-- A call that answers a row of one's own, alone ready. -/
theorem vqt0r9 {α : Type} {vf : α → Value} {cf : α → World} {r' : α → Rwv} {φ : α → Prop} {f : Nat} {l : List Operand} {vs : List Value} {ats : Array TypeId} (hc : Tr P f vs c [] [] vf cf (fun _ => []) (fun x => [r' x]) φ) (k : ∀ x, φ x → HG P ops Q cH H fuel listed' N ((n, vf x) :: L) (cf x) M (r' x :: R)) (hlc : ∀ x, φ x → Le c (cf x) := by intro _ h; first | exact Le.refl _ | exact h.1) (hH2 : ∀ x : α, ∀ y ∈ H, y ∈ M := by simp) (hxl : al1 ops listed = some i := by rfl) (hi : ops[i]? = some ⟨some n, .call { callee := .value (.func f), args := l.toArray, argTypes := ats }, ty, ps, af, gd⟩ := by rfl) (hs9 : setB listed i = some listed' := by rfl) (hv : lkos L l = some vs := by rfl) (hr : Region.ready .any ops listed.toArray = [i] := by kernel_rfl) (hw : wtd ops L gd = some true := by rfl) (hn : Nat.blt n N = true := by rfl) :
    HG P ops Q cH H (fuel + 1) listed N L c M R := HG.ta (M1 := []) (R1 := []) hc k hlc hH2 hi hs9 hv hr hw hn
end
theorem vcd3 {P : Program} {Q : Kn} {N : Nat} {L : List (Nat × Value)} {c : World} {M : List Bl} {R : List Rwv} {xc : Code} {m0 : Bl} (k : CG P Q xc N L c M R) : CG P Q xc N L c (m0 :: M) R := ⟨fun κ a w F S => k.h κ a w F S.drop⟩
section
variable {c : World} {v : Int}
theorem rn_con (p : Pk) (s : Sl) (hp : p.At s c) (hF : Fit p) (hR : Ri v p) (hL : Lays9 v p) (hP : p.props.length ≤ 1000) (hW : p.willProps.length ≤ 1000) (hB : (connB v p).length ≤ 50000) : Rn 111 [.int .i64 v, p.val s] c (connB v p) := by
  have b1 := ck_bit8 (c := c) p.clean 2
  have b2 := ck_bit8 (c := c) p.hasWill 4
  have b3 := ck_bit8 (c := c) p.willRetain 32
  have b4 := ck_bit8 (c := c) p.hasPass 64
  have b5 := ck_bit8 (c := c) p.hasUser 128
  have hwq := hR.wq
  have hv := hR.hv
  have hkeep := hF.keep
  have hn : bitN p.clean 2 ≤ 2 ∧ bitN p.hasWill 4 ≤ 4 ∧ bitN p.willRetain 32 ≤ 32 ∧ bitN p.hasPass 64 ≤ 64 ∧ bitN p.hasUser 128 ≤ 128 := by
    unfold bitN
    refine ⟨?_, ?_, ?_, ?_, ?_⟩ <;> split <;> omega
  have hfl : conFlN p < 256 := by unfold conFlN; omega
  have e0 := oy_bin (c := c) (a := none) (n := 0) (l := []) (s := mqtt) (.nil _ _) (fun _ => ⟨rfl, rfl⟩) (by decide) (by decide)
  rw [List.nil_append] at e0
  obtain ⟨l0, hl0⟩ : ∃ l0, l0 = binBy mqtt ++ (by1 v.toNat ++ by1 (conFlN p)) := ⟨_, rfl⟩
  have hz : l0.length = 8 := by rw [hl0]; rfl
  obtain ⟨l3, hl3⟩ : ∃ l3, l3 = l0 ++ by2 p.keep ++ secB v p.props ++ binBy p.client := ⟨_, rfl⟩
  obtain ⟨l4, hl4⟩ : ∃ l4, l4 = l3 ++ (if p.hasWill = true then secB v p.willProps ++ binBy p.willTopic ++ binBy p.willLoad else []) := ⟨_, rfl⟩
  obtain ⟨l5, hl5⟩ : ∃ l5, l5 = l4 ++ (if p.hasUser = true then binBy p.user else []) := ⟨_, rfl⟩
  obtain ⟨l6, hl6⟩ : ∃ l6, l6 = l5 ++ (if p.hasPass = true then binBy p.pass else []) := ⟨_, rfl⟩
  have hcon : connB v p = l6 := by rw [hl6, hl5, hl4, hl3, hl0]; unfold connB; simp only [List.append_assoc]
  rw [hcon] at hB ⊢
  have g5 : l5.length ≤ 50000 := by have := congrArg List.length hl6; rw [List.length_append] at this; omega
  have g4 : l4.length ≤ 50000 := by have := congrArg List.length hl5; rw [List.length_append] at this; omega
  have g3 : l3.length ≤ 50000 := by have := congrArg List.length hl4; rw [List.length_append] at this; omega
  have g2 : (l0 ++ by2 p.keep ++ secB v p.props).length ≤ 50000 := by have := congrArg List.length hl3; rw [List.length_append] at this; omega
  refine Tr.in Tryz.func111 ?_
  refine go ?_
  refine vA fun b0 => ?_
  refine go ?_
  refine vt0r e0 fun y0 _ => ?_
  refine go ?_
  refine vck (fun _ : Unit => [(0, .int .i64 v), (3, pt b0), (5, .slice y0.1 (binBy mqtt).length y0.2), (6, .int .i64 (conFlN p))]) (fun _ => c) (fun _ => [⟨b0, 27, p.li s⟩]) (fun _ => [byR y0.1 y0.2 (binBy mqtt)]) (fun _ => True) ?_ fun _ _ => ?_
  · refine vh [0] ?_
    repeat' first | refine go ?_ | refine vqx 0 ?_ | fail
    exact vj () trivial (hL := by refine ⟨rfl, rfl, rfl, ?_, trivial⟩; show some (Value.int IntKind.i64 _) = some (.int .i64 _); unfold conFlN; congr 2)
  have hm : (binBy mqtt).length = 6 := rfl
  refine go ?_
  refine vA fun b9 => ?_
  refine vgb fun a' cp' => ?_
  have n1 : (binBy mqtt).length + 2 = l0.length := by rw [hl0]; rfl
  have n2 : B8 (binBy mqtt) ++ [.int .u8 v, .int .u8 (conFlN p)] = B8 l0 := by
    rw [hl0, B8_append, B8_append, B8_by1 _ hfl, B8_by1 _ (by omega), show ((v.toNat : Nat) : Int) = v by omega]
    rfl
  rw [n1, n2]
  refine go ?_
  have t1 := fun (a : Option Addr) (n : Nat) (c : World) => ro_two (c := c) (a := a) (n := n) (l := l0) (x := p.keep) (by omega) hkeep
  have t2 := fun (a : Option Addr) (n : Nat) (c' : World) (k : Le c c') => ro_sec (c := c') (v := v) (a := a) (n := n) (m := s.pc) (l := l0 ++ by2 p.keep) (K := p.props) (by rw [List.length_append, b2_len]; omega) (hp.hp.le k) hP hF.wf.p hL.p
  have t3 := fun (a : Option Addr) (n : Nat) (c : World) => ro_bin (c := c) (a := a) (n := n) (l := l0 ++ by2 p.keep ++ secB v p.props) (s := p.client) (by omega) hR.client
  refine vcd3 ?_
  refine vck (fun y : (Option Addr × Nat) × World => [(0, .int .i64 v), (3, pt b0), (5, .slice y.1.1 l3.length y.1.2)]) (fun y => y.2) (fun _ => [⟨b0, 27, p.li s⟩]) (fun y => [byR y.1.1 y.1.2 l3]) (fun y => Le c y.2) ?_ fun y4 k4 => ?_
  · subst hl3
    refine vh [0] ?_
    refine go ?_
    repeat' first
      | refine go ?_
      | refine vqx 0 ?_
      | refine vqr (t1 a' cp' c) fun y1 k1 => ?_
      | refine vqr (t2 _ _ _ k1) fun y2 k2 => ?_
      | refine vqr (t3 _ _ _) fun y3 k3 => ?_
      | fail
    exact vj y3 ((k1.trans k2).trans k3)
  refine go ?_
  refine vck (fun y : (Option Addr × Nat) × World => [(0, .int .i64 v), (3, pt b0), (5, .slice y.1.1 l4.length y.1.2)]) (fun y => y.2) (fun _ => [⟨b0, 27, p.li s⟩]) (fun y => [byR y.1.1 y.1.2 l4]) (fun y => Le c y.2) ?_ fun y5 k5 => ?_
  · cases hw : p.hasWill with
    | true =>
      have e : l4 = l3 ++ secB v p.willProps ++ binBy p.willTopic ++ binBy p.willLoad := by rw [hl4, hw]; simp
      have e1 : (l3 ++ secB v p.willProps ++ binBy p.willTopic ++ binBy p.willLoad).length ≤ 50000 := by rw [← e]; exact g4
      rw [List.length_append] at e1
      have e2 := e1
      rw [List.length_append] at e2
      have u1 := ro_sec (c := y4.2) (v := v) (a := y4.1.1) (n := y4.1.2) (m := s.wc) (l := l3) (K := p.willProps) (by omega) (hp.hw.le k4) hW hF.wf.w hL.w
      have u2 := fun (a : Option Addr) (n : Nat) (c : World) => ro_bin (c := c) (a := a) (n := n) (l := l3 ++ secB v p.willProps) (s := p.willTopic) (by omega) hR.willTopic
      have u3 := fun (a : Option Addr) (n : Nat) (c : World) => ro_bin (c := c) (a := a) (n := n) (l := l3 ++ secB v p.willProps ++ binBy p.willTopic) (s := p.willLoad) (by omega) hR.willLoad
      rw [e]
      refine go ?_
      refine vh [0] ?_
      refine go ?_
      repeat' first
        | refine go ?_
        | refine vqx 0 ?_
        | refine vqr u1 fun y1 k1 => ?_
        | refine vqr (u2 _ _ _) fun y2 k2 => ?_
        | refine vqr (u3 _ _ _) fun y3 k3 => ?_
        | fail
      exact vj y3 (((k4.trans k1).trans k2).trans k3)
    | false =>
      have e : l4 = l3 := by rw [hl4, hw]; simp
      rw [e]
      refine go ?_
      exact vj y4 k4
  refine go ?_
  refine vck (fun y : (Option Addr × Nat) × World => [(0, .int .i64 v), (3, pt b0), (5, .slice y.1.1 l5.length y.1.2)]) (fun y => y.2) (fun _ => [⟨b0, 27, p.li s⟩]) (fun y => [byR y.1.1 y.1.2 l5]) (fun y => Le c y.2) ?_ fun y6 k6 => ?_
  · cases hw : p.hasUser with
    | true =>
      have e : l5 = l4 ++ binBy p.user := by rw [hl5, hw]; simp
      rw [e]
      refine go ?_
      refine vtr (ro_bin (c := y5.2) (a := y5.1.1) (n := y5.1.2) (l := l4) (s := p.user) (by omega) hR.user) fun y1 k1 => ?_
      refine go ?_
      exact vj y1 (k5.trans k1)
    | false =>
      have e : l5 = l4 := by rw [hl5, hw]; simp
      rw [e]
      refine go ?_
      exact vj y5 k5
  refine go ?_
  cases hw : p.hasPass with
  | true =>
    have e : l6 = l5 ++ binBy p.pass := by rw [hl6, hw]; simp
    rw [e]
    refine go ?_
    refine vtr (ro_bin (c := y6.2) (a := y6.1.1) (n := y6.1.2) (l := l5) (s := p.pass) (by omega) hR.pass) fun y1 k1 => ?_
    refine go ?_
    exact ved (vrt y1 (k6.trans k1))
  | false =>
    have e : l6 = l5 := by rw [hl6, hw]; simp
    rw [e]
    refine go ?_
    exact ved (vrt y6 k6)
end
end Go.Proofs.YtdgmkcfkpknamaaGreatDoor
