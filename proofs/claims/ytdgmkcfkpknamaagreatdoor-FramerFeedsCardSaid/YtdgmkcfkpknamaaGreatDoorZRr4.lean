/-
  pouchref09.Form, walked.
-/
import Derived.Test.YtdgmkcfkpknamaaGreatDoorZRr3
import Derived.Test.YtdgmkcfkpknamaaGreatDoorYI5
namespace Go.Proofs.YtdgmkcfkpknamaaGreatDoor
open Go.RowKit
set_option linter.unusedVariables false
set_option linter.unusedSimpArgs false
set_option maxRecDepth 100000
set_option maxHeartbeats 8000000
section
variable {c : World} {t r q at_ : Nat} {v : Int} {B : ByteArray} {s : Ts}
theorem ck_FlagsK (k : Int) (h : k ≠ 3) : Ck Tryz.prog 59 [(zk k).val sl0] c (.int .i64 (flagsN (zk k))) := by
  have hz : (zk k).kind = k := rfl
  rw [flags_zk]
  refine Ck.in Tryz.func59 ?_
  repeat' first | refine go ?_ | refine vA fun b => ?_ | refine vc (fun _ => ?_) fun _ => ?_ | refine vri ?_ | fail
  all_goals first | (rename_i hh; exact absurd hh h) | grind
theorem CG.perm {P : Program} {Q : Kn} {x : Code} {N : Nat} {L : List (Nat × Value)} {c : World} {M M' : List Bl} {R : List Rwv} (k : CG P Q x N L c M' R) (h : M.Perm M') : CG P Q x N L c M R := ⟨fun κ a w F S => k.h κ a w F (S.perm h)⟩
structure FlR where
  i : Nat
  fa : Option Addr
  fp : Nat
  acc : List Fi
  n : Nat
  S : Ts
structure FmX where
  i : Nat
  p : Pk
  sl : Sl
  c : World
theorem tn_rForm (hT : Tabs c) {n : Nat} {a : Option Addr} {l : List UInt8} (hr : Row c a (B8 l)) (hn : a = none → n = 0) (hl : l.length ≤ n) (h5 : l.length ≤ 100000) : Tn Tryz.prog 75 [.int .i64 v, .slice a l.length n] c (fun x : Sl => .tuple #[(formP v l).val x, .bool (formOk v l)]) (fun x c' => (formP v l).At x c' ∧ (x.ca = none → x.cc = 0) ∧ Pn c (formP v l) x) := by
  have c1 := ck_rHead hr hn (by omega)
  have f1 := hd_flags l
  have f2 := hd_head l
  have f3 := hd_rest l
  have f4 := hd_kind l
  have eH := headOk_eq v (headB l) f4
  refine Tn.in Tryz.func75 ?_
  refine go ?_
  refine vA fun b4 => ?_
  refine go ?_
  refine vA fun b6 => ?_
  refine gor ?_
  by_cases hv : v = 4 ∨ v = 5
  case neg =>
    have e : formOk v l = false := by simp [formOk, eH, hv]
    rw [e, formP_no e]
    refine go ?_
    exact vrn2 (sl0, c) ⟨Le.refl c, at0 0 c, fun _ => rfl, .zk _ _ _⟩
  by_cases h1 : headE l = 0
  case neg =>
    have e : formOk v l = false := by simp [formOk, h1]
    rw [e, formP_no e]
    rcases hv with rfl | rfl
    all_goals
      refine go ?_
      exact vrn2 (sl0, c) ⟨Le.refl c, at0 0 c, fun _ => rfl, .zk _ _ _⟩
  by_cases h2 : (l.length : Int) = (headB l).head + (headB l).rest
  case neg =>
    have e : formOk v l = false := by simp [formOk, h2]
    rw [e, formP_no e]
    rcases hv with rfl | rfl
    all_goals
      refine go ?_
      exact vrn2 (sl0, c) ⟨Le.refl c, at0 0 c, fun _ => rfl, .zk _ _ _⟩
  by_cases h3 : (headB l).kind < 1
  case pos =>
    have e : formOk v l = false := by simp [formOk, eH]; grind
    rw [e, formP_no e]
    rcases hv with rfl | rfl
    all_goals
      refine go ?_
      exact vrn2 (sl0, c) ⟨Le.refl c, at0 0 c, fun _ => rfl, .zk _ _ _⟩
  by_cases h4 : v = 4 ∧ (headB l).kind = 15
  case pos =>
    have e : formOk v l = false := by unfold formOk; rw [eH, show decide ((v = 4 ∨ v = 5) ∧ 1 ≤ (headB l).kind ∧ ¬(v = 4 ∧ (headB l).kind = 15) ∧ ((headB l).kind = 3 ∨ (headB l).flags = flagsN (zk (headB l).kind))) = false from decide_eq_false fun q => q.2.2.1 h4]; simp
    rw [e, formP_no e]
    obtain ⟨rfl, h4⟩ := h4
    refine go ?_
    exact vrn2 (sl0, c) ⟨Le.refl c, at0 0 c, fun _ => rfl, .zk _ _ _⟩
  refine vck (fun _ => [(0, .int .i64 v), (1, .slice a l.length n), (4, pt b4), (6, pt b6), (50, .bool false)]) (fun _ => c) (fun _ : Unit => [⟨b6, 125, [.int .i64 (headB l).kind, .int .u8 (headB l).flags, .int .i64 (headB l).head, .int .i64 (headB l).rest]⟩, ⟨b4, 27, (zk 0).li sl0⟩]) (fun _ => []) (fun _ => True) ?_ fun _ _ => ?_
  · have h6 : ¬ (headB l).kind < 1 := h3
    rcases hv with rfl | rfl
    · have h7 : ¬ (headB l).kind = 15 := fun q => h4 ⟨rfl, q⟩
      refine go ?_
      rw [decide_eq_false h7]
      exact vj () trivial
    · refine go ?_
      exact vj () trivial
  have c2 := ck_FlagsK (c := c) (headB l).kind
  have eS : formS v l = fieldsK v (headB l).kind (headB l).flags ⟨l.drop (headB l).head.toNat, 0, false⟩ := rfl
  have nF : (headB l).kind ≠ 3 ∧ (headB l).flags ≠ flagsN (zk (headB l).kind) → formOk v l = false := fun h => by simp [formOk, eH]; grind
  have yF : ¬ ((headB l).kind ≠ 3 ∧ (headB l).flags ≠ flagsN (zk (headB l).kind)) → formOk v l = ((formS v l).2.ok && decide ((formS v l).2.l.length = 0)) := fun h => by simp [formOk, eH, h1, h2]; grind
  generalize headB l = H at *
  obtain ⟨k, f, hd, m⟩ := H
  dsimp only at *
  refine go ?_
  refine vA fun b8 => ?_
  refine gor ?_
  by_cases h6 : k ≠ 3 ∧ f ≠ flagsN (zk k)
  · rw [nF h6, formP_no (nF h6)]
    have c3 := c2 h6.1
    obtain ⟨h6, h7⟩ := h6
    have h8 : ¬ (f : Int) = (flagsN (zk k) : Int) := by omega
    refine vh [0, 1, 2] ?_
    repeat' first | refine go ?_ | refine vqgT ?_ | refine vqgF ?_ | refine vq ?_ | refine vqx 0 ?_ | fail
    exact vrn2 (sl0, c) ⟨Le.refl c, at0 0 c, fun _ => rfl, .zk _ _ _⟩
  rw [yF h6] 
  refine vck (fun _ => [(0, .int .i64 v), (1, .slice a l.length n), (4, pt b4), (6, pt b6), (8, pt b8), (65, .bool false)]) (fun _ => c) (fun _ : Unit => [pdB b8 (zk k) sl0, ⟨b6, 125, [.int .i64 k, .int .u8 f, .int .i64 hd, .int .i64 m]⟩, ⟨b4, 27, (zk 0).li sl0⟩]) (fun _ => []) (fun _ => True) ?_ fun _ _ => ?_
  · by_cases h7 : k = 3
    · refine vh [0, 1, 2] ?_
      repeat' first | refine go ?_ | refine vqgT ?_ | refine vqgF ?_ | refine vq ?_ | refine vqx 0 ?_ | fail
      exact vj () trivial
    · have c3 := c2 h7
      have h8 : f = flagsN (zk k) := Classical.byContradiction fun q => h6 ⟨h7, q⟩
      have h9 : (f : Int) = (flagsN (zk k) : Int) := by omega
      refine vh [0, 1, 2] ?_
      repeat' first | refine go ?_ | refine vqgT ?_ | refine vqgF ?_ | refine vq ?_ | refine vqx 0 ?_ | fail
      rw [decide_eq_true h9]
      exact vj () trivial
  have t1 : (l.drop hd.toNat).take (l.length - hd.toNat) = l.drop hd.toNat := List.take_of_length_le (by rw [List.length_drop]; omega)
  have t2 : l.length - hd.toNat = (l.drop hd.toNat).length := by rw [List.length_drop]
  refine go ?_
  refine vslf fun a' g1 g2 => ?_
  rw [t1] at g1
  rw [t2]
  refine vq ?_
  refine go ?_
  refine vA fun b9 => ?_
  refine go ?_
  refine vA fun b10 => ?_
  refine gob ?_
  have R0 : RrK ⟨(l.drop hd.toNat).toArray⟩ 0 (l.drop hd.toNat) 0 := ⟨Nat.zero_le _, by show (l.drop hd.toNat).toArray.size ≤ _; rw [List.size_toArray, List.length_drop]; omega, fun _ => by simp, fun h => absurd rfl h⟩
  have l0 : (l.drop hd.toNat).length ≤ 100000 := by rw [List.length_drop]; omega
  rw [eS]
  have nP : ((fieldsK v k f ⟨l.drop hd.toNat, 0, false⟩).2.ok && decide ((fieldsK v k f ⟨l.drop hd.toNat, 0, false⟩).2.l.length = 0)) = false → formP v l = zk 0 := fun q => formP_no (by rw [yF h6, eS]; exact q)
  have yP : ((fieldsK v k f ⟨l.drop hd.toNat, 0, false⟩).2.ok && decide ((fieldsK v k f ⟨l.drop hd.toNat, 0, false⟩).2.l.length = 0)) = true → formP v l = (fieldsK v k f ⟨l.drop hd.toNat, 0, false⟩).1 := fun q => (if_pos (by rw [yF h6, eS]; exact q)).trans (by rw [eS])
  clear yF nF c1 c2 eH h6 t1 t2 g1 g2
  generalize l.drop hd.toNat = l' at *
  generalize hsd : (⟨l', 0, false⟩ : Ts) = s at *
  have s1 : s.l = l' := by rw [← hsd]
  have s2 : s.e = 0 := by rw [← hsd]
  have s3 : s.b = false := by rw [← hsd]
  have R1 : RrK ⟨l'.toArray⟩ 0 s.l s.e := by rw [s1, s2]; exact R0
  have l1 : s.l.length ≤ 100000 := by rw [s1]; exact l0
  refine CG.me (M' := [dtB b10 b9 v s.b, rrB b9 ⟨l'.toArray⟩ 0 s.e, pdB b8 (zk k) sl0, ⟨b6, 125, [.int .i64 k, .int .u8 f, .int .i64 hd, .int .i64 m]⟩, ⟨b4, 27, (zk 0).li sl0⟩]) (by rw [s2, s3]; rfl) ?_
  generalize (⟨l'.toArray⟩ : ByteArray) = B at *
  clear R0 l0 hsd eS
  refine vck (fun _ => [(4, pt b4), (6, pt b6), (8, pt b8), (9, pt b10)]) (fun x : FmX => x.c) (fun x => [dtB b10 b9 v (fieldsK v k f s).2.b, rrB b9 B x.i (fieldsK v k f s).2.e, pdB b8 x.p x.sl, ⟨b6, 125, [.int .i64 k, .int .u8 f, .int .i64 hd, .int .i64 m]⟩, ⟨b4, 27, (zk 0).li sl0⟩]) (fun _ => []) (fun x => Le c x.c ∧ RrK B x.i (fieldsK v k f s).2.l (fieldsK v k f s).2.e ∧ x.p.At x.sl x.c ∧ (x.sl.ca = none → x.sl.cc = 0) ∧ Pn c x.p x.sl ∧ ((fieldsK v k f s).2.b = false → x.p = (fieldsK v k f s).1)) ?_ fun x hx => ?_
  · have n1 := rd_len 2 s
    have z1 : Pn c (zk k) sl0 := .zk _ _ _
    by_cases k1 : k = 1
    · subst k1
      have e : fieldsK v 1 f s = connK v s := rfl
      have r := conn_rel v s
      rw [e, ← r.1]
      refine go ?_
      refine vt30 (dp_connect R1 l1) fun x h => ?_
      refine go ?_
      exact vj (FmX.mk x.i (connD v s).1 x.sl x.c) ⟨h.1, h.2.1, h.2.2.1, h.2.2.2.1, h.2.2.2.2 c (Le.refl c) z1, r.2⟩
    by_cases k2 : k = 2
    · subst k2
      have e : fieldsK v 2 f s = connackK v s := rfl
      have n3 := num1_lt s
      have n4 : Go.Proofs.YtdgmkcfkpknamaaGreatDoor.num (taken 1 (leftL 1 s.l s.e) (leftE 1 s.l s.e)) < 256 := num1_lt (s.rd 1)
      have n5 := rd_len 1 s
      have n6 := rd_len 1 (s.rd 1)
      have l9 := lt9 (s.num 1)
      rw [e]
      refine go ?_
      refine vt1b (rr_num 1 (by decide) (by decide) R1) fun x1 g1 => ?_
      refine gor ?_
      refine vrg ?_
      refine gor ?_
      refine CG.me (M' := [dtB b10 b9 v ((s.rd 1).need (decide (s.num 1 ≤ 1))).b, rrB b9 B x1 (s.rd 1).e, pdB b8 (zk 2) sl0, ⟨b6, 125, [.int .i64 2, .int .u8 f, .int .i64 hd, .int .i64 m]⟩, ⟨b4, 27, (zk 0).li sl0⟩]) (congrArg (fun b => [dtB b10 b9 v b, rrB b9 B x1 (s.rd 1).e, pdB b8 (zk 2) sl0, ⟨b6, 125, [.int .i64 2, .int .u8 f, .int .i64 hd, .int .i64 m]⟩, ⟨b4, 27, (zk 0).li sl0⟩]) (show decide ((1 : Int) < ((s.num 1 : Nat) : Int)) = (s.b || !decide (s.num 1 ≤ 1)) by rw [s3, ← l9, decide_eq_decide]; omega)) ?_
      refine go ?_
      refine vt1b (rr_num 1 (by decide) (by decide) (l := leftL 1 s.l s.e) (e := leftE 1 s.l s.e) g1) fun x2 g2 => ?_
      refine vq ?_
      refine go ?_
      refine vt20 (tr_dsec (s := ((s.rd 1).need (decide (s.num 1 ≤ 1))).rd 1) (v := v) g2 (Nat.le_trans (Nat.le_trans n6 n5) l1)) fun z hz => ?_
      refine go ?_
      exact vj (FmX.mk z.i _ { sl0 with pa := z.b, pc := z.bp } z.c) ⟨hz.1, hz.2.1, ⟨.nil _ _, .nil _ _, .nil _ _, hz.2.2.1⟩, fun _ => rfl, ⟨.nil _ _, .nil _ _, .nil _ _, hz.2.2.2.2⟩, fun _ => rfl⟩ (hM := by simp [Pk.li, connackK, Ts.num, bI1, Ts.rd, Ts.need]; exact decide_eq_decide.2 Iff.rfl)
    by_cases k3 : k = 3
    · subst k3
      obtain ⟨q1, q2, q3⟩ := bits16 f f1
      have q4 : decide ((f : Int) % 2 = 1) = !decide (f &&& 1 = 0) := by rw [← q1, decide_eq_decide]; omega
      have q5 : (f : Int) / 2 % 4 = ((f / 2 &&& 3 : Nat) : Int) := by omega
      have q6 : decide ((8 : Int) ≤ (f : Int)) = !decide (f &&& 8 = 0) := by rw [← q3, decide_eq_decide]; omega
      have e0 : fieldsK v 3 f s = publK v f s := rfl
      have n3 := rdT_len s
      have n4 := rd_len 2 s.rdT
      have n5 : Go.Proofs.YtdgmkcfkpknamaaGreatDoor.num (taken 2 s.rdT.l s.rdT.e) < 65536 := num2_lt s.rdT
      rw [e0]
      refine go ?_
      refine vh [3] ?_
      repeat' first | refine gor ?_ | refine vqx 0 ?_ | fail
      refine CG.me (M' := [dtB b10 b9 v s.b, rrB b9 B 0 s.e, pdB b8 { zk 3 with dup := !decide (f &&& 8 = 0), qos := f / 2 &&& 3, retain := !decide (f &&& 1 = 0) } sl0, ⟨b6, 125, [.int .i64 3, .int .u8 f, .int .i64 hd, .int .i64 m]⟩, ⟨b4, 27, (zk 0).li sl0⟩]) (by rw [q4, q5, q6]; rfl) ?_
      refine go ?_
      refine vt20 (tr_dtext R1) fun x1 g1 => ?_
      refine go ?_
      by_cases hq : f / 2 &&& 3 = 0
      · have e : publK v f s = ({ zk 3 with dup := !decide (f &&& 8 = 0), qos := f / 2 &&& 3, retain := !decide (f &&& 1 = 0), topic := s.bin, id := 0, props := s.rdT.sec v, load := (s.rdT.rdS v).rest }, (s.rdT.rdS v).rdR) := by simp [publK, hq]
        rw [e]
        refine vcF ?_ (hp := decide_eq_false (show ¬ (0 : Int) < ((f / 2 &&& 3 : Nat) : Int) by omega))
        refine go ?_
        refine vt20 (tr_dsec (s := s.rdT) (v := v) g1 (by omega)) fun y hy => ?_
        refine go ?_
        refine vt1b (rr_rest hy.2.1) fun z hz => ?_
        refine go ?_
        exact vj (FmX.mk z _ { sl0 with pa := y.b, pc := y.bp } y.c) ⟨hy.1, hz, ⟨.nil _ _, .nil _ _, .nil _ _, hy.2.2.1⟩, fun _ => rfl, ⟨.nil _ _, .nil _ _, .nil _ _, hy.2.2.2.2⟩, fun _ => rfl⟩
      · have e : publK v f s = ({ zk 3 with dup := !decide (f &&& 8 = 0), qos := f / 2 &&& 3, retain := !decide (f &&& 1 = 0), topic := s.bin, id := s.rdT.num 2, props := (s.rdT.rd 2).sec v, load := ((s.rdT.rd 2).rdS v).rest }, ((s.rdT.rd 2).rdS v).rdR) := by simp [publK, hq]
        rw [e]
        refine vcT ?_ (hp := decide_eq_true (show (0 : Int) < ((f / 2 &&& 3 : Nat) : Int) by omega))
        refine go ?_
        refine vt1b (rr_num 2 (by decide) (by decide) g1) fun w hw => ?_
        refine vq ?_
        refine go ?_
        refine vt20 (tr_dsec (s := s.rdT.rd 2) (v := v) hw (by omega)) fun y hy => ?_
        refine go ?_
        refine vt1b (rr_rest hy.2.1) fun z hz => ?_
        refine go ?_
        exact vj (FmX.mk z _ { sl0 with pa := y.b, pc := y.bp } y.c) ⟨hy.1, hz, ⟨.nil _ _, .nil _ _, .nil _ _, hy.2.2.1⟩, fun _ => rfl, ⟨.nil _ _, .nil _ _, .nil _ _, hy.2.2.2.2⟩, fun _ => rfl⟩
    by_cases k4 : k = 4 ∨ k = 5 ∨ k = 6 ∨ k = 7
    · have e : fieldsK v k f s = shortK v { zk k with id := s.num 2 } (s.rd 2) := by simp [fieldsK, k1, k2, k3, k4]
      have z2 : Pn c { zk k with id := s.num 2 } sl0 := ⟨z1.w, z1.f, z1.c, z1.p⟩
      have n2 : Go.Proofs.YtdgmkcfkpknamaaGreatDoor.num (taken 2 s.l s.e) < 65536 := num2_lt s
      rw [e]
      repeat' first | refine go ?_ | refine vc (fun _ => ?_) fun _ => ?_ | fail
      all_goals
        refine vt1b (rr_num 2 (by decide) (by decide) R1) fun y hy => ?_
        refine vq ?_
        refine go ?_
        refine vt30 (dp_code (s := s.rd 2) (p := { zk k with id := s.num 2 }) (sl := sl0) hy (by omega) ⟨.nil _ _, .nil _ _, .nil _ _, .nil _ _⟩ (fun _ => rfl)) fun x h => ?_
        refine go ?_
        exact vj (FmX.mk x.i _ x.sl x.c) ⟨h.1, h.2.1, h.2.2.1, h.2.2.2.1, h.2.2.2.2 c (Le.refl c) z2, fun _ => rfl⟩
    by_cases k8 : k = 8 ∨ k = 10
    · have e : fieldsK v k f s = ({ zk k with id := s.num 2, props := (s.rd 2).sec v, filters := (filtK k ((s.rd 2).rdS v).l.length ((s.rd 2).rdS v)).1 }, (filtK k ((s.rd 2).rdS v).l.length ((s.rd 2).rdS v)).2) := by simp [fieldsK, k1, k2, k3, k4, k8]
      have n2 : Go.Proofs.YtdgmkcfkpknamaaGreatDoor.num (taken 2 s.l s.e) < 65536 := num2_lt s
      have n3 := rdS_len v (s.rd 2)
      rw [e]
      repeat' first | refine go ?_ | refine vc (fun _ => ?_) fun _ => ?_ | fail
      all_goals
        refine vt1b (rr_num 2 (by decide) (by decide) R1) fun y hy => ?_
        refine vq ?_
        refine go ?_
        refine vt20 (tr_dsec (s := s.rd 2) (v := v) hy (by omega)) fun z hz => ?_
        refine gob ?_
        refine vb ?_
        refine CG.nilr 94 2 ?_
        have hz1 := hz.2.1
        clear hy R1
        generalize (s.rd 2).rdS v = s0 at *
        refine vlo (fun x : FlR => [(4, pt b4), (6, pt b6), (8, pt b8), (9, pt b10)]) (fun _ => z.c) (fun x => [dtB b10 b9 v x.S.b, rrB b9 B x.i x.S.e, pdB b8 { zk k with id := s.num 2, props := (s.rd 2).sec v, filters := x.acc } { sl0 with pa := z.b, pc := z.bp, fa := x.fa, fc := x.fp }, ⟨b6, 125, [.int .i64 k, .int .u8 f, .int .i64 hd, .int .i64 m]⟩, ⟨b4, 27, (zk 0).li sl0⟩]) (fun x => [⟨94, 2, .slice x.fa x.acc.length x.fp, x.acc.length, FC x.acc⟩]) (fun x => filtK k s0.l.length s0 = (x.acc ++ (filtK k x.n x.S).1, (filtK k x.n x.S).2) ∧ x.S.l.length ≤ x.n ∧ x.acc.length + x.n ≤ s0.l.length ∧ RrK B x.i x.S.l x.S.e) (fun x => x.n) ⟨z.i, none, 0, [], s0.l.length, s0⟩ ⟨by simp, Nat.le_refl _, by simp, hz1⟩ fun ⟨i, fa, fp, acc, n, S⟩ ⟨j1, j2, j3, j4⟩ => ?_
        dsimp only at j1 j2 j3 j4 ⊢
        have stop : ¬ (S.b = false ∧ 0 < S.l.length) → filtK k s0.l.length s0 = (acc, S) := fun h9 => filtK_end j1 fun q => h9 ⟨by have := q.1; unfold Ts.ok at this; simp at this; exact this.1, q.2⟩
        refine go ?_
        refine vt1b (rr_left j4) fun x1 g1 => ?_
        by_cases h0 : 0 < S.l.length
        case neg =>
          rw [stop (fun q => h0 q.2)]
          refine go ?_
          refine veo fun c' l9 o9 nw => ?_
          exact vj (FmX.mk x1 _ { sl0 with pa := z.b, pc := z.bp, fa := fa, fc := fp } c') ⟨hz.1.trans l9, g1, ⟨.nil _ _, o9.row, .nil _ _, hz.2.2.1.le l9⟩, fun _ => rfl, ⟨.nil _ _, nw.le hz.1, .nil _ _, hz.2.2.2.2⟩, fun _ => rfl⟩
        rcases Bool.eq_false_or_eq_true S.b with hb | hb
        · have hb' : (!S.b) = false := by rw [hb]; rfl
          rw [stop (by rw [hb]; simp)]
          refine go ?_
          refine veo fun c' l9 o9 nw => ?_
          exact vj (FmX.mk x1 _ { sl0 with pa := z.b, pc := z.bp, fa := fa, fc := fp } c') ⟨hz.1.trans l9, g1, ⟨.nil _ _, o9.row, .nil _ _, hz.2.2.1.le l9⟩, fun _ => rfl, ⟨.nil _ _, nw.le hz.1, .nil _ _, hz.2.2.2.2⟩, fun _ => rfl⟩
        · have hb' : (!S.b) = true := by rw [hb]; rfl
          have he : S.e = 0 := Classical.byContradiction fun q => by have := j4.bad q; rw [this] at h0; simp at h0
          have hok : S.ok = true := by unfold Ts.ok; rw [hb, he]; rfl
          have m1 : Go.Proofs.YtdgmkcfkpknamaaGreatDoor.num (taken 1 S.rdT.l S.rdT.e) < 256 := num1_lt S.rdT
          obtain ⟨r1, r2⟩ := filtK_round (o := if k = 8 then S.rdT.num 1 else 0) (s' := if k = 8 then S.rdT.rd 1 else S.rdT) j1 j2 ⟨hok, h0⟩ rfl rfl
          refine go ?_
          refine vt20 (tr_dtext g1) fun x2 g2 => ?_
          refine go ?_
          refine vA fun b11 => ?_
          by_cases hk : k = 8
          · rw [if_pos hk] at r1 r2
            rw [if_pos hk] at r1
            refine go ?_
            refine vt1c (rr_num 1 (by decide) (by decide) g2) fun x3 g3 => ?_
            refine vq ?_
            refine gor ?_
            refine CG.perm ?_ (List.perm_middle (l₁ := [_, _, _]))
            refine go ?_
            refine vA fun b12 => ?_
            refine vgb fun a' cp' => ?_
            refine go ?_
            refine ved ?_
            refine EG.perm ?_ (List.perm_middle (l₁ := [_]))
            refine ved ?_
            refine EG.perm ?_ (List.perm_middle (l₁ := [_, _])).symm
            have e1 : acc.length + 1 = (acc ++ [(⟨S.bin, S.rdT.num 1⟩ : Fi)]).length := by simp
            have e2 : FC acc ++ [.string S.bin, .int .u8 (S.rdT.num 1)] = FC (acc ++ [(⟨S.bin, S.rdT.num 1⟩ : Fi)]) := by rw [FC_append, FC_one]; rfl
            have e3 : (Go.Proofs.YtdgmkcfkpknamaaGreatDoor.num (taken 1 S.rdT.l S.rdT.e) : Int) = (S.rdT.num 1 : Int) := rfl
            rw [e3, e2, e1]
            exact vj ⟨x3, a', cp', acc ++ [⟨S.bin, S.rdT.num 1⟩], n - 1, S.rdT.rd 1⟩ ⟨r1, r2, by dsimp only; rw [← e1]; omega, g3⟩ (hμ := by dsimp only; omega)
          · (try (exfalso; omega)) <;>
            (rw [if_neg hk] at r1 r2
             rw [if_neg hk] at r1
             refine gor ?_
             refine vrg ?_
             refine gor ?_
             refine CG.perm ?_ (List.perm_middle (l₁ := [_, _, _]))
             refine go ?_
             refine vA fun b12 => ?_
             refine vgb fun a' cp' => ?_
             refine go ?_
             refine ved ?_
             refine EG.perm ?_ (List.perm_middle (l₁ := [_]))
             refine ved ?_
             refine EG.perm ?_ (List.perm_middle (l₁ := [_, _])).symm
             have e1 : acc.length + 1 = (acc ++ [(⟨S.bin, 0⟩ : Fi)]).length := by simp
             have e2 : FC acc ++ [.string S.bin, .int .u8 0] = FC (acc ++ [(⟨S.bin, 0⟩ : Fi)]) := by rw [FC_append, FC_one]; rfl
             rw [e2, e1]
             exact vj ⟨x2, a', cp', acc ++ [⟨S.bin, 0⟩], n - 1, S.rdT⟩ ⟨r1, r2, by dsimp only; rw [← e1]; omega, g2⟩ (hμ := by dsimp only; omega))
    by_cases k9 : k = 9 ∨ k = 11
    · have e : fieldsK v k f s = ({ zk k with id := s.num 2, props := (s.rd 2).sec v, codes := ((s.rd 2).rdS v).l }, ((s.rd 2).rdS v).rdR) := by simp [fieldsK, k1, k2, k3, k4, k8, k9]
      have n2 : Go.Proofs.YtdgmkcfkpknamaaGreatDoor.num (taken 2 s.l s.e) < 65536 := num2_lt s
      rw [e]
      repeat' first | refine go ?_ | refine vc (fun _ => ?_) fun _ => ?_ | fail
      all_goals
        refine vt1b (rr_num 2 (by decide) (by decide) R1) fun y hy => ?_
        refine vq ?_
        refine go ?_
        refine vt20 (tr_dsec (s := s.rd 2) (v := v) hy (by omega)) fun z hz => ?_
        refine go ?_
        refine vt1b (rr_rest hz.2.1) fun x hx => ?_
        refine vsb9 fun c' a' cp' h1 h2 h3 h4 h5 => ?_
        refine go ?_
        exact vj (FmX.mk x _ { sl0 with pa := z.b, pc := z.bp, ca := a', cc := cp' } c') ⟨hz.1.trans h1, hx, ⟨.nil _ _, .nil _ _, h2, hz.2.2.1.le h1⟩, h3, ⟨.nil _ _, .nil _ _, h5.le hz.1, hz.2.2.2.2⟩, fun _ => rfl⟩
    by_cases k14 : k = 14 ∨ k = 15
    · have e : fieldsK v k f s = shortK v (zk k) s := by simp [fieldsK, k1, k2, k3, k4, k8, k9, k14]
      rw [e]
      repeat' first | refine go ?_ | refine vc (fun _ => ?_) fun _ => ?_ | fail
      all_goals
        refine vt30 (dp_code (p := zk k) (sl := sl0) R1 l1 (at0 k c) (fun _ => rfl)) fun x h => ?_
        refine go ?_
        exact vj (FmX.mk x.i _ x.sl x.c) ⟨h.1, h.2.1, h.2.2.1, h.2.2.2.1, h.2.2.2.2 c (Le.refl c) z1, fun _ => rfl⟩
    · have e : fieldsK v k f s = (zk k, s) := by simp [fieldsK, k1, k2, k3, k4, k8, k9, k14]
      rw [e]
      repeat' first | refine go ?_ | refine vc (fun _ => ?_) fun _ => ?_ | fail
      exact vj (FmX.mk 0 (zk k) sl0 c) ⟨Le.refl c, R1, at0 k c, fun _ => rfl, z1, fun _ => rfl⟩
  · obtain ⟨x1, x2, x3, x4, x5, x6⟩ := hx
    generalize fieldsK v k f s = K at *
    refine CG.perm ?_ (List.perm_middle (l₁ := [_, _, _, _]))
    rcases Bool.eq_false_or_eq_true K.2.b with hb | hb
    · have e : (K.2.ok && decide (K.2.l.length = 0)) = false := by simp [Ts.ok, hb]
      rw [e, nP e]
      refine go ?_
      exact vrn2 (sl0, x.c) ⟨x1, at0 0 _, fun _ => rfl, .zk _ _ _⟩
    by_cases he : K.2.e = 0
    case neg =>
      have e : (K.2.ok && decide (K.2.l.length = 0)) = false := by simp [Ts.ok, he]
      rw [e, nP e]
      refine go ?_
      exact vrn2 (sl0, x.c) ⟨x1, at0 0 _, fun _ => rfl, .zk _ _ _⟩
    refine go ?_
    refine vt1c (rr_left x2) fun x7 _ => ?_
    by_cases h0 : K.2.l.length = 0
    · have e : (K.2.ok && decide (K.2.l.length = 0)) = true := by simp [Ts.ok, he, hb, h0]
      rw [e, yP e, ← x6 hb]
      refine go ?_
      exact vrn2 (x.sl, x.c) ⟨x1, x3, x4, x5⟩
    · have e : (K.2.ok && decide (K.2.l.length = 0)) = false := by simp [h0]
      rw [e, nP e]
      refine go ?_
      exact vrn2 (sl0, x.c) ⟨x1, at0 0 _, fun _ => rfl, .zk _ _ _⟩
end
end Go.Proofs.YtdgmkcfkpknamaaGreatDoor
