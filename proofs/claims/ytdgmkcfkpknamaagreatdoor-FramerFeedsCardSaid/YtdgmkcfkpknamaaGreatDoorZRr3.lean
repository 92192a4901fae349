/-
  pouchref09's taker: connect, walked.
-/
import Derived.Test.YtdgmkcfkpknamaaGreatDoorYI5
namespace Go.Proofs.YtdgmkcfkpknamaaGreatDoor
open Go.RowKit
set_option linter.unusedVariables false
set_option linter.unusedSimpArgs false
set_option maxRecDepth 100000
set_option maxHeartbeats 8000000
/-- Not into a region. -/
theorem gor {G G' : Prop} (k : G') (h : Nx G' → G := by
    intro k9
    repeat1' (first
      | refine vz ?_
      | refine vf ?_
      | refine vl ?_
      | refine vn ?_
      | refine vla ?_
      | refine vno ?_
      | refine vs ?_
      | refine vct ?_
      | refine vcf ?_
      | refine vk ?_
      | refine ves ?_
      | refine vb ?_
      | refine vx ?_
      | refine vre ?_
      | refine ver ?_
      | refine vex ?_
      | refine vebr ?_
      | refine vebx ?_
      | refine veby ?_
      | refine veb ?_
      | refine vjr ?_
      | refine vjx ?_
      | refine vkz ?_
      | refine vbe ?_
      | refine vbn ?_
      | refine vfp ?_
      | refine vno0 ?_
      | refine vln ?_
      | refine vls ?_
      | refine vad ?_
      | refine vsu ?_
      | refine vt0 ?_
      | refine vt1 ?_
      | refine vt2 ?_
      | refine vlp ?_
      | refine vbu ?_
      | refine vcT ?_
      | refine vcF ?_
      | refine vgT ?_
      | refine vgF ?_
      | refine venr ?_
      | refine vqz ?_
      | refine vqf ?_
      | refine vql ?_
      | refine vqla ?_
      | refine vqln ?_
      | refine vqls ?_
      | refine vqad ?_
      | refine vqno ?_
      | refine vqt0 ?_
      | refine vqt1 ?_
      | refine vqt2 ?_
      | refine vq ?_
      | refine vqq ?_
      | refine vqkz ?_
      | refine vix ?_
      | refine vqix ?_
      | refine vlr ?_
      | refine vlr1 ?_
      | refine vlrf ?_
      | refine vqn ?_)
    exact k9.h) : G := h ⟨k⟩
theorem CG.me {P : Program} {Q : Kn} {x : Code} {N : Nat} {L : List (Nat × Value)} {c : World} {M M' : List Bl} {R : List Rwv} (e : M = M') (k : CG P Q x N L c M' R) : CG P Q x N L c M R := e ▸ k
theorem bitsI (f : Nat) (h : f < 256) : (decide ((f : Int) / 2 % 2 = 1) = !decide (f &&& 2 = 0)) ∧ (decide ((f : Int) / 4 % 2 = 1) = !decide (f &&& 4 = 0)) ∧ ((f : Int) / 8 % 4 = ((f / 8 &&& 3 : Nat) : Int)) ∧ (decide ((f : Int) / 32 % 2 = 1) = !decide (f &&& 32 = 0)) ∧ (decide ((f : Int) / 64 % 2 = 1) = !decide (f &&& 64 = 0)) ∧ (decide ((f : Int) / 128 % 2 = 1) = !decide (f &&& 128 = 0)) := by
  obtain ⟨f1, f2, f3, f4, f5, f6⟩ := bits9 f h
  refine ⟨?_, ?_, ?_, ?_, ?_, ?_⟩
  · rw [← f1, decide_eq_decide]; omega
  · rw [← f2, decide_eq_decide]; omega
  · rw [← f3]; omega
  · rw [← f4, decide_eq_decide]; omega
  · rw [← f5, decide_eq_decide]; omega
  · rw [← f6, decide_eq_decide]; omega
def conC (v : Int) (s : Ts) : Pk := { zk 1 with clean := !decide ((s.rdB.rd 1).num 1 &&& 2 = 0), keep := ((s.rdB.rd 1).rd 1).num 2, hasWill := !decide ((s.rdB.rd 1).num 1 &&& 4 = 0), hasUser := !decide ((s.rdB.rd 1).num 1 &&& 128 = 0), hasPass := !decide ((s.rdB.rd 1).num 1 &&& 64 = 0), willQoS := (s.rdB.rd 1).num 1 / 8 &&& 3, willRetain := !decide ((s.rdB.rd 1).num 1 &&& 32 = 0) }
section
variable {c : World} {t r q at_ : Nat} {v : Int} {B : ByteArray} {s : Ts}
theorem dp_connect (h : RrK B at_ s.l s.e) (hl : s.l.length ≤ 100000) : Dp 127 [] c t r q v B at_ s (zk 1) sl0 (connD v s) := by
  have n1 := num_le 1 (binL s.l s.e) (binE s.l s.e) 1 (by omega)
  have n2 : Go.Proofs.YtdgmkcfkpknamaaGreatDoor.num (taken 1 (leftL 1 (binL s.l s.e) (binE s.l s.e)) (leftE 1 (binL s.l s.e) (binE s.l s.e))) < 256 := n1_lt (s.rdB.rd 1)
  have n3 : Go.Proofs.YtdgmkcfkpknamaaGreatDoor.num (taken 2 (leftL 1 (leftL 1 (binL s.l s.e) (binE s.l s.e)) (leftE 1 (binL s.l s.e) (binE s.l s.e))) (leftE 1 (leftL 1 (binL s.l s.e) (binE s.l s.e)) (leftE 1 (binL s.l s.e) (binE s.l s.e)))) < 65536 := num2_lt ((s.rdB.rd 1).rd 1)
  rw [connD_eq]
  refine Tr.in Tryz.func127 ?_
  refine go ?_
  refine vt1b (rr_bin h) fun x1 g1 => ?_
  refine go ?_
  refine vt1b (rr_num 1 (by decide) (by decide) g1) fun x2 g2 => ?_
  refine vq ?_
  refine go ?_
  refine vt1b (rr_num 1 (by decide) (by decide) g2) fun x3 g3 => ?_
  refine vq ?_
  refine go ?_
  refine vt1b (rr_num 2 (by decide) (by decide) g3) fun x4 g4 => ?_
  refine vq ?_
  refine gor ?_
  refine vrg ?_
  repeat' first | refine vq ?_ | refine gor ?_ | fail
  have ef : Go.Proofs.YtdgmkcfkpknamaaGreatDoor.num (taken 1 (leftL 1 (binL s.l s.e) (binE s.l s.e)) (leftE 1 (binL s.l s.e) (binE s.l s.e))) = (s.rdB.rd 1).num 1 := rfl
  rw [ef] at n2 ⊢
  obtain ⟨k1, k2, k3, k4, k5, k6⟩ := bitsI _ n2
  rw [k1, k2, k3, k4, k5, k6]
  refine CG.me (M' := [dtB t r v s.b, rrB r B x4 (conS v s).e, pdB q (conC v s) sl0]) rfl ?_
  refine vck (fun _ => [(0, pt t), (1, pt q)]) (fun _ => c) (fun _ : Unit => [dtB t r v (conS v s).b, rrB r B x4 (conS v s).e, pdB q (conC v s) sl0]) (fun _ => []) (fun _ => True) ?_ fun _ _ => ?_
  · cases hb : s.b with
    | true =>
      refine go ?_
      exact vj () trivial (hM := congrArg (fun b => [dtB t r v b, rrB r B x4 (conS v s).e, pdB q (conC v s) sl0]) (show true = conB v s by simp [conB, hb]))
    | false =>
      repeat' first | refine go ?_ | refine vq ?_ | refine vg (fun _ => ?_) fun _ => ?_ | fail
      all_goals refine vj () trivial (hM := congrArg (fun b => [dtB t r v b, rrB r B x4 (conS v s).e, pdB q (conC v s) sl0]) (?_ : _ = conB v s))
      all_goals unfold conB
      all_goals have e1 : (⟨(binTaken s.l s.e).toArray⟩ : ByteArray) = s.bin := rfl
      all_goals have e2 : mqtt = ⟨#[77, 81, 84, 84]⟩ := rfl
      all_goals have e3 : Go.Proofs.YtdgmkcfkpknamaaGreatDoor.num (taken 1 (binL s.l s.e) (binE s.l s.e)) = s.rdB.num 1 := rfl
      all_goals have e4 : (conC v s).hasWill = !decide ((s.rdB.rd 1).num 1 &&& 4 = 0) := rfl
      all_goals simp only [e1, e3, e4, ← e2] at *
      all_goals clear g1 g2 g3 g4 k1 k2 k3 k4 k5 k6 n1 n3 h ef
      all_goals generalize s.rdB.num 1 = w at *
      all_goals generalize (s.rdB.rd 1).num 1 = f at *
      all_goals grind
  · have m0 : (conS v s).l.length ≤ 100000 := Nat.le_trans (rd_len 2 ((s.rdB.rd 1).rd 1)) (Nat.le_trans (rd_len 1 (s.rdB.rd 1)) (Nat.le_trans (rd_len 1 s.rdB) (Nat.le_trans (rdB_len s) hl)))
    have m1 := rdS_len v (conS v s)
    have m2 := rdT_len ((conS v s).rdS v)
    refine go ?_
    refine vt20 (tr_dsec (s := conS v s) (v := v) g4 m0) fun x5 h5 => ?_
    refine go ?_
    refine vt20 (tr_dtext (s := (conS v s).rdS v) h5.2.1) fun x6 h6 => ?_
    refine go ?_
    refine CG.me (M' := [dtB t r v ((conS v s).rdS v).rdT.b, rrB r B x6 ((conS v s).rdS v).rdT.e, pdB q (conP v s) { sl0 with pa := x5.b, pc := x5.bp }]) rfl ?_
    have hw : (conC v s).hasWill = !decide ((s.rdB.rd 1).num 1 &&& 4 = 0) := rfl
    have hA : (conP v s).At { sl0 with pa := x5.b, pc := x5.bp } x5.c := ⟨.nil _ _, .nil _ _, .nil _ _, h5.2.2.1⟩
    have hN : ∀ n, Le n c → Pn n (conP v s) { sl0 with pa := x5.b, pc := x5.bp } := fun n k => ⟨.nil _ _, .nil _ _, .nil _ _, h5.2.2.2.2.le k⟩
    generalize conP v s = p0 at *
    generalize ((conS v s).rdS v).rdT = s0 at *
    generalize (s.rdB.rd 1).num 1 = f at *
    clear k1 k2 k3 k4 k5 k6 n1 n2 n3 g1 g2 g3 g4 ef
    refine vck (fun _ => [(0, pt t), (1, pt q)]) (fun x : DpX => x.c) (fun x => [dtB t r v (willD v f p0 s0).2.b, rrB r B x.i (willD v f p0 s0).2.e, pdB q (willD v f p0 s0).1 x.sl]) (fun _ => []) (fun x => Le c x.c ∧ RrK B x.i (willD v f p0 s0).2.l (willD v f p0 s0).2.e ∧ (willD v f p0 s0).1.At x.sl x.c ∧ (x.sl.ca = none → x.sl.cc = 0) ∧ ∀ n, Le n c → Pn n (willD v f p0 s0).1 x.sl) ?_ fun x7 h7 => ?_
    · rcases Classical.em ((!decide (f &&& 4 = 0)) = true) with hb | hb
      · have e : willD v f p0 s0 = ({ p0 with willProps := s0.sec v, willTopic := (s0.rdS v).bin, willLoad := (s0.rdS v).rdT.bin }, (s0.rdS v).rdT.rdB) := if_pos hb
        rw [e]
        rw [hb] at hw
        refine vcT ?_ (hp := hw)
        refine go ?_
        refine vt20 (tr_dsec (s := s0) (v := v) h6 (by omega)) fun x8 h8 => ?_
        refine go ?_
        refine vt20 (tr_dtext (s := s0.rdS v) h8.2.1) fun x9 h9 => ?_
        refine go ?_
        refine vt1b (rr_bin (l := (s0.rdS v).rdT.l) (e := (s0.rdS v).rdT.e) h9) fun x10 h10 => ?_
        refine go ?_
        have hA2 := hA.le h8.1
        exact vj (DpX.mk x10 { sl0 with pa := x5.b, pc := x5.bp, wa := x8.b, wc := x8.bp } x8.c) ⟨h5.1.trans h8.1, h10, ⟨h8.2.2.1, hA2.hf, hA2.hc, hA2.hp⟩, fun _ => rfl, fun n k => ⟨h8.2.2.2.2.le (k.trans h5.1), (hN n k).f, (hN n k).c, (hN n k).p⟩⟩
      · have e : willD v f p0 s0 = (p0, s0) := if_neg hb
        rw [e]
        rw [Bool.eq_false_iff.2 hb] at hw
        refine vcF ?_ (hp := hw)
        refine go ?_
        exact vj (DpX.mk x6 { sl0 with pa := x5.b, pc := x5.bp } x5.c) ⟨h5.1, h6, hA, fun _ => rfl, hN⟩
    · generalize willD v f p0 s0 = W at *
      obtain ⟨pw, sw⟩ := W
      dsimp only at h7 ⊢
      obtain ⟨a1, a2, a3, a4, a5⟩ := h7
      refine go ?_
      rcases Classical.em (pw.hasUser = true) with hu | hu
      · have e : userD pw sw = ({ pw with user := sw.bin }, sw.rdT) := if_pos hu
        rw [e]
        refine vcT ?_ (hp := hu)
        refine go ?_
        refine vt20 (tr_dtext (s := sw) a2) fun x8 h8 => ?_
        refine go ?_
        rcases Classical.em (pw.hasPass = true) with hp | hp
        · have e : passD { pw with user := sw.bin } sw.rdT = ({ pw with user := sw.bin, pass := sw.rdT.bin }, sw.rdT.rdB) := if_pos hp
          rw [e]
          refine vcT ?_ (hp := hp)
          refine go ?_
          refine vt1b (rr_bin h8) fun x9 h9 => ?_
          refine go ?_
          exact vrt0 (DpX.mk x9 x7.sl x7.c) ⟨a1, h9, ⟨a3.hw, a3.hf, a3.hc, a3.hp⟩, a4, fun n k _ => ⟨(a5 n k).w, (a5 n k).f, (a5 n k).c, (a5 n k).p⟩⟩
        · have e : passD { pw with user := sw.bin } sw.rdT = ({ pw with user := sw.bin }, sw.rdT) := if_neg hp
          rw [e]
          refine vcF ?_ (hp := Bool.eq_false_iff.2 hp)
          refine go ?_
          exact vrt0 (DpX.mk x8 x7.sl x7.c) ⟨a1, h8, ⟨a3.hw, a3.hf, a3.hc, a3.hp⟩, a4, fun n k _ => ⟨(a5 n k).w, (a5 n k).f, (a5 n k).c, (a5 n k).p⟩⟩
      · have e : userD pw sw = (pw, sw) := if_neg hu
        rw [e]
        refine vcF ?_ (hp := Bool.eq_false_iff.2 hu)
        refine go ?_
        rcases Classical.em (pw.hasPass = true) with hp | hp
        · have e : passD pw sw = ({ pw with pass := sw.bin }, sw.rdB) := if_pos hp
          rw [e]
          refine vcT ?_ (hp := hp)
          refine go ?_
          refine vt1b (rr_bin a2) fun x9 h9 => ?_
          refine go ?_
          exact vrt0 (DpX.mk x9 x7.sl x7.c) ⟨a1, h9, ⟨a3.hw, a3.hf, a3.hc, a3.hp⟩, a4, fun n k _ => ⟨(a5 n k).w, (a5 n k).f, (a5 n k).c, (a5 n k).p⟩⟩
        · have e : passD pw sw = (pw, sw) := if_neg hp
          rw [e]
          refine vcF ?_ (hp := Bool.eq_false_iff.2 hp)
          refine go ?_
          exact vrt0 (DpX.mk x7.i x7.sl x7.c) ⟨a1, a2, a3, a4, fun n k _ => a5 n k⟩
end
end Go.Proofs.YtdgmkcfkpknamaaGreatDoor
