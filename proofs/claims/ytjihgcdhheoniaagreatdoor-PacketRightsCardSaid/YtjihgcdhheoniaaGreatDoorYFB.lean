/-
  Contracts and plain facts, one behind the other: PkG PkE PkS PkA PkR.
-/
import Derived.Test.YtjihgcdhheoniaaGreatDoorYF9
import Derived.Test.YtjihgcdhheoniaaGreatDoorYF3
import Derived.Laws.Tables
/-
  A long row of '&&' over two boxes: one step a field, whatever the value.
-/
namespace Go.Proofs.YtjihgcdhheoniaaGreatDoor
open Go.RowKit
set_option linter.unusedVariables false
set_option linter.unusedSimpArgs false
set_option maxRecDepth 100000

def opt (b : Bool) (v : Value) : Value := match b with | true => v | false => undef
section
variable {P : Program} {ops : Array Oper} {Q : Exit → Act → World → Prop} {a : Act} {w : World} {rest : List Oper} {o : Oper}
theorem wpList_do {v : Value} {w' : World} (hg : o.guard = none) (h : (execOp a.eval o).run P w = .ok (.value v) w') (k : wpList P ops Q rest (a.put o.dst v) w') : wpList P ops Q (o :: rest) a w := by
  unfold wpList
  rw [if_pos (by simp [Region.wanted, hg])]
  left
  unfold Oper.wp
  rw [h]
  exact k
theorem wpList_opt {gi : Nat} {b : Bool} {v : Value} (hg : o.guard = some (gi, true)) (hy : yielded ops a.tmps gi = some b) (h : b = true → (execOp a.eval o).run P w = .ok (.value v) w) (k : wpList P ops Q rest (a.put o.dst (opt b v)) w) : wpList P ops Q (o :: rest) a w := by
  unfold wpList
  cases b with
  | true =>
    rw [if_pos (by simp [Region.wanted, hg, hy])]
    left
    unfold Oper.wp
    rw [h rfl]
    exact k
  | false =>
    rw [if_neg (by simp [Region.wanted, hg, hy])]
    exact k
theorem run_value {s : Sem Value} {v : Value} {w' : World} (h : s.run P w = .ok v w') : (do pure (Next.value (← s)) : Sem Next).run P w = .ok (.value v) w' := by
  simp [h, Result.andThen]
/-- A guarded call: what it answers, and the world behind it, if it comes to that. -/
theorem wpList_callopt {gi : Nat} {b : Bool} {R : Value → World → Prop} {f : Nat} {args : Array Value} (hg : o.guard = some (gi, true)) (hy : yielded ops a.tmps gi = some b) (h : b = true → (execOp a.eval o).run P w = .ok (.enter f args) w)
    (hc : b = true → Calls P f args w fun e w' => ∃ v, e = .returned v ∧ R v w') (k : ∀ v w', (b = true → R v w') → (b = false → v = undef ∧ w' = w) → wpList P ops Q rest (a.put o.dst v) w') : wpList P ops Q (o :: rest) a w := by
  unfold wpList
  cases b with
  | true =>
    rw [if_pos (by simp [Region.wanted, hg, hy])]
    left
    unfold Oper.wp
    rw [h rfl]
    refine (hc rfl).mono ?_
    rintro e w' ⟨v, rfl, hR⟩
    exact k v w' (fun _ => hR) (by simp)
  | false =>
    rw [if_neg (by simp [Region.wanted, hg, hy])]
    exact k undef w (by simp) (fun _ => ⟨rfl, rfl⟩)

/-- What is known of the frame between two fields. -/
structure Ch (a : Act) (N : Nat) (p1 p2 : Value) (g : Nat) (b : Bool) : Prop where
  size : a.tmps.size = N
  t2 : a.tmps[2]? = some p1
  t3 : a.tmps[3]? = some p2
  g : a.tmps[g]? = some (.bool b)
  d : a.defers = []
theorem eval_of {i : Nat} {v : Value} (h : a.tmps[i]? = some v) : a.eval (.tmp i) = v := by simp [Act.eval, Array.getD_eq_getD_getElem?, h]
theorem put_ne {i d : Nat} {v : Value} (h : d ≠ i) : (a.put (some d) v).tmps[i]? = a.tmps[i]? := by simp [Act.put, Array.getElem?_setIfInBounds, h]
theorem put_eq {d : Nat} {v : Value} (h : d < a.tmps.size) : (a.put (some d) v).tmps[d]? = some v := by simp [Act.put, Array.getElem?_setIfInBounds, h]
theorem put_size {d : Nat} {v : Value} : (a.put (some d) v).tmps.size = a.tmps.size := by simp [Act.put]
theorem yielded_of {gi gs : Nat} {b : Bool} (hy : (ops[gi]?).bind (·.dst) = some gs) (h : a.tmps[gs]? = some (.bool b)) : yielded ops a.tmps gi = some b := by
  unfold yielded
  rw [hy]
  simp [h]
/-- Two loads of one field and what follows them up to the Bool: 'e' is what comes of them. -/
structure Loads2 (P : Program) (S T T' K : Nat) (B1 B2 : Nat) (V1 V2 : Value) (w : World) : Prop where
  f1 : (Instr.fieldAt S (.pointer (some ⟨B1, 0, none⟩)) K).run P w = .ok (.pointer (some ⟨B1, K, none⟩)) w
  f2 : (Instr.fieldAt S (.pointer (some ⟨B2, 0, none⟩)) K).run P w = .ok (.pointer (some ⟨B2, K, none⟩)) w
  l1 : (Instr.loadAt T (.pointer (some ⟨B1, K, none⟩))).run P w = .ok V1 w
  l2 : (Instr.loadAt T (.pointer (some ⟨B2, K, none⟩))).run P w = .ok V2 w

theorem chain_loads {N S T T' K n gs gi B1 B2 : Nat} {V1 V2 : Value} {b : Bool} {o1 o2 o3 o4 : Oper}
    (h1 : o1.op = .fieldAddr S (.tmp 2) K ∧ o1.dst = some n ∧ o1.guard = some (gi, true)) (h2 : o2.op = .load T (.tmp n) ∧ o2.dst = some (n + 1) ∧ o2.guard = some (gi, true))
    (h3 : o3.op = .fieldAddr S (.tmp 3) K ∧ o3.dst = some (n + 2) ∧ o3.guard = some (gi, true)) (h4 : o4.op = .load T (.tmp (n + 2)) ∧ o4.dst = some (n + 3) ∧ o4.guard = some (gi, true))
    (hyo : (ops[gi]?).bind (·.dst) = some gs) (hF : Ch a N (.pointer (some ⟨B1, 0, none⟩)) (.pointer (some ⟨B2, 0, none⟩)) gs b) (hn : 5 ≤ n) (hgs : gs < n) (hN : n + 5 < N)
    (L : Loads2 P S T T' K B1 B2 V1 V2 w)
    (k : ∀ a', Ch a' N (.pointer (some ⟨B1, 0, none⟩)) (.pointer (some ⟨B2, 0, none⟩)) gs b → a'.tmps[n + 1]? = some (opt b V1) → a'.tmps[n + 3]? = some (opt b V2) → wpList P ops Q rest a' w) :
    wpList P ops Q (o1 :: o2 :: o3 :: o4 :: rest) a w := by
  obtain ⟨hs, ht2, ht3, hg, hd⟩ := hF
  refine wpList_opt h1.2.2 (yielded_of hyo hg) (v := .pointer (some ⟨B1, K, none⟩)) (fun hb => ?_) ?_
  · simp [execOp, h1.1, eval_of ht2, L.f1, Result.andThen]
  rw [h1.2.1]
  have g1 : (a.put (some n) (opt b (.pointer (some ⟨B1, K, none⟩)))).tmps[gs]? = some (.bool b) := by rw [put_ne (by omega)]; exact hg
  refine wpList_opt h2.2.2 (yielded_of hyo g1) (v := V1) (fun hb => ?_) ?_
  · subst hb
    have e1 : (a.put (some n) (opt true (.pointer (some ⟨B1, K, none⟩)))).eval (.tmp n) = .pointer (some ⟨B1, K, none⟩) := eval_of (put_eq (by omega))
    simp [execOp, h2.1, e1, L.l1, Result.andThen]
  rw [h2.2.1]
  obtain ⟨A, hA⟩ : ∃ A, A = (a.put (some n) (opt b (.pointer (some ⟨B1, K, none⟩)))).put (some (n + 1)) (opt b V1) := ⟨_, rfl⟩
  rw [← hA]
  have q0 : A.tmps.size = N := by rw [hA, put_size, put_size, hs]
  have q2 : A.tmps[2]? = some (.pointer (some ⟨B1, 0, none⟩)) := by rw [hA, put_ne (by omega), put_ne (by omega), ht2]
  have q3 : A.tmps[3]? = some (.pointer (some ⟨B2, 0, none⟩)) := by rw [hA, put_ne (by omega), put_ne (by omega), ht3]
  have qg : A.tmps[gs]? = some (.bool b) := by rw [hA, put_ne (by omega), put_ne (by omega), hg]
  have qd : A.defers = [] := by rw [hA]; exact hd
  have q1 : A.tmps[n + 1]? = some (opt b V1) := by rw [hA]; exact put_eq (by rw [put_size]; omega)
  clear hA g1 hs ht2 ht3 hg hd
  refine wpList_opt h3.2.2 (yielded_of hyo qg) (v := .pointer (some ⟨B2, K, none⟩)) (fun hb => ?_) ?_
  · simp [execOp, h3.1, eval_of q3, L.f2, Result.andThen]
  rw [h3.2.1]
  have g1 : (A.put (some (n + 2)) (opt b (.pointer (some ⟨B2, K, none⟩)))).tmps[gs]? = some (.bool b) := by rw [put_ne (by omega)]; exact qg
  refine wpList_opt h4.2.2 (yielded_of hyo g1) (v := V2) (fun hb => ?_) ?_
  · subst hb
    have e1 : (A.put (some (n + 2)) (opt true (.pointer (some ⟨B2, K, none⟩)))).eval (.tmp (n + 2)) = .pointer (some ⟨B2, K, none⟩) := eval_of (put_eq (by omega))
    simp [execOp, h4.1, e1, L.l2, Result.andThen]
  rw [h4.2.1]
  refine k _ ⟨?_, ?_, ?_, ?_, qd⟩ ?_ ?_
  · rw [put_size, put_size, q0]
  · rw [put_ne (by omega), put_ne (by omega), q2]
  · rw [put_ne (by omega), put_ne (by omega), q3]
  · rw [put_ne (by omega), put_ne (by omega), qg]
  · rw [put_ne (by omega), put_ne (by omega), q1]
  · exact put_eq (by rw [put_size]; omega)

/-- The '&&' behind the Bool of slot m. -/
theorem chain_pick {N n gs m d7 : Nat} {p1 p2 : Value} {b e : Bool} {o6 o7 : Oper}
    (h6 : o6.op = .pick (.tmp gs) (.tmp m) (.const (.bool false)) ∧ o6.dst = some n ∧ o6.guard = none) (h7 : (o7.op = .move (.tmp n) ∨ o7.op = .assign (.tmp n)) ∧ o7.dst = some d7 ∧ o7.guard = none)
    (hF : Ch a N p1 p2 gs b) (hm : a.tmps[m]? = some (opt b (.bool e))) (hn : 5 ≤ n) (hN : n < N) (hd : 3 < d7 ∧ d7 < N) (hgn : gs ≠ n) (hmn : m ≠ n)
    (k : ∀ a', Ch a' N p1 p2 d7 (b && e) → wpList P ops Q rest a' w) : wpList P ops Q (o6 :: o7 :: rest) a w := by
  obtain ⟨hs, ht2, ht3, hg, hdf⟩ := hF
  refine wpList_do (w' := w) h6.2.2 (v := .bool (b && e)) ?_ ?_
  · cases b
    · simp [execOp, h6.1, eval_of hg, asBool]; rfl
    · simp [execOp, h6.1, eval_of hg, asBool, eval_of hm, opt]
  rw [h6.2.1]
  have e1 : (a.put (some n) (.bool (b && e))).eval (.tmp n) = .bool (b && e) := eval_of (put_eq (by omega))
  refine wpList_do (w' := w) h7.2.2 (v := .bool (b && e)) ?_ ?_
  · rcases h7.1 with h | h <;> simp [execOp, h, e1]
  rw [h7.2.1]
  refine k _ ⟨?_, ?_, ?_, ?_, hdf⟩
  · rw [put_size, put_size, hs]
  · rw [put_ne (by omega), put_ne (by omega), ht2]
  · rw [put_ne (by omega), put_ne (by omega), ht3]
  · exact put_eq (by rw [put_size]; omega)
/-- One field whose two values are compared. -/
theorem chain_eql {N S T T' K n gs gi d7 B1 B2 : Nat} {V1 V2 : Value} {b e : Bool} {o1 o2 o3 o4 o5 o6 o7 : Oper}
    (h1 : o1.op = .fieldAddr S (.tmp 2) K ∧ o1.dst = some n ∧ o1.guard = some (gi, true)) (h2 : o2.op = .load T (.tmp n) ∧ o2.dst = some (n + 1) ∧ o2.guard = some (gi, true))
    (h3 : o3.op = .fieldAddr S (.tmp 3) K ∧ o3.dst = some (n + 2) ∧ o3.guard = some (gi, true)) (h4 : o4.op = .load T (.tmp (n + 2)) ∧ o4.dst = some (n + 3) ∧ o4.guard = some (gi, true))
    (h5 : o5.op = .binOp .eql T (.tmp (n + 1)) (.tmp (n + 3)) T' ∧ o5.dst = some (n + 4) ∧ o5.guard = some (gi, true))
    (h6 : o6.op = .pick (.tmp gs) (.tmp (n + 4)) (.const (.bool false)) ∧ o6.dst = some (n + 5) ∧ o6.guard = none) (h7 : (o7.op = .move (.tmp (n + 5)) ∨ o7.op = .assign (.tmp (n + 5))) ∧ o7.dst = some d7 ∧ o7.guard = none)
    (hyo : (ops[gi]?).bind (·.dst) = some gs) (hF : Ch a N (.pointer (some ⟨B1, 0, none⟩)) (.pointer (some ⟨B2, 0, none⟩)) gs b) (hn : 5 ≤ n) (hgs : gs < n) (hN : n + 5 < N) (hd : 3 < d7 ∧ d7 < N)
    (L : Loads2 P S T T' K B1 B2 V1 V2 w) (he : ∀ x y, (do eqGuard .eql T x y V1 V2; binOp .eql T V1 V2 : Sem Value).run P w = .ok (.bool e) w)
    (k : ∀ a', Ch a' N (.pointer (some ⟨B1, 0, none⟩)) (.pointer (some ⟨B2, 0, none⟩)) d7 (b && e) → wpList P ops Q rest a' w) :
    wpList P ops Q (o1 :: o2 :: o3 :: o4 :: o5 :: o6 :: o7 :: rest) a w := by
  refine chain_loads h1 h2 h3 h4 hyo hF hn hgs hN L fun a1 F1 m1 m3 => ?_
  refine wpList_opt h5.2.2 (yielded_of hyo F1.g) (v := .bool e) (fun hb => ?_) ?_
  · subst hb
    have he2 := he (.tmp (n + 1)) (.tmp (n + 3))
    simp only [execOp, h5.1, eval_of m1, eval_of m3, opt]
    exact run_value he2
  rw [h5.2.1]
  refine chain_pick h6 h7 (b := b) (e := e) ⟨by rw [put_size]; exact F1.size, ?_, ?_, ?_, F1.d⟩ (put_eq (by rw [F1.size]; omega)) (by omega) (by omega) hd (by omega) (by omega) k
  · rw [put_ne (by omega), F1.t2]
  · rw [put_ne (by omega), F1.t3]
  · rw [put_ne (by omega), F1.g]
theorem chain_first {cmp : BinOp} {N S T T' K n d7 B1 B2 : Nat} {V1 V2 : Value} {e : Bool} {o1 o2 o3 o4 o5 o6 : Oper}
    (h1 : o1.op = .fieldAddr S (.tmp 2) K ∧ o1.dst = some n ∧ o1.guard = none) (h2 : o2.op = .load T (.tmp n) ∧ o2.dst = some (n + 1) ∧ o2.guard = none)
    (h3 : o3.op = .fieldAddr S (.tmp 3) K ∧ o3.dst = some (n + 2) ∧ o3.guard = none) (h4 : o4.op = .load T (.tmp (n + 2)) ∧ o4.dst = some (n + 3) ∧ o4.guard = none)
    (h5 : o5.op = .binOp cmp T (.tmp (n + 1)) (.tmp (n + 3)) T' ∧ o5.dst = some (n + 4) ∧ o5.guard = none) (h6 : o6.op = .move (.tmp (n + 4)) ∧ o6.dst = some d7 ∧ o6.guard = none)
    (hs : a.tmps.size = N) (ht2 : a.tmps[2]? = some (.pointer (some ⟨B1, 0, none⟩))) (ht3 : a.tmps[3]? = some (.pointer (some ⟨B2, 0, none⟩))) (hd0 : a.defers = []) (hn : 5 ≤ n) (hN : n + 5 < N) (hd : 3 < d7 ∧ d7 < N)
    (L : Loads2 P S T T' K B1 B2 V1 V2 w) (he : ∀ x y, (do eqGuard cmp T x y V1 V2; binOp cmp T V1 V2 : Sem Value).run P w = .ok (.bool e) w)
    (k : ∀ a', Ch a' N (.pointer (some ⟨B1, 0, none⟩)) (.pointer (some ⟨B2, 0, none⟩)) d7 e → wpList P ops Q rest a' w) :
    wpList P ops Q (o1 :: o2 :: o3 :: o4 :: o5 :: o6 :: rest) a w := by
  refine wpList_do (w' := w) h1.2.2 (v := .pointer (some ⟨B1, K, none⟩)) ?_ ?_
  · simp [execOp, h1.1, eval_of ht2, L.f1, Result.andThen]
  rw [h1.2.1]
  refine wpList_do (w' := w) h2.2.2 (v := V1) ?_ ?_
  · have e1 : (a.put (some n) (.pointer (some ⟨B1, K, none⟩))).eval (.tmp n) = .pointer (some ⟨B1, K, none⟩) := eval_of (put_eq (by omega))
    simp [execOp, h2.1, e1, L.l1, Result.andThen]
  rw [h2.2.1]
  obtain ⟨A, hA⟩ : ∃ A, A = (a.put (some n) (.pointer (some ⟨B1, K, none⟩))).put (some (n + 1)) V1 := ⟨_, rfl⟩
  rw [← hA]
  have q0 : A.tmps.size = N := by rw [hA, put_size, put_size, hs]
  have q2 : A.tmps[2]? = some (.pointer (some ⟨B1, 0, none⟩)) := by rw [hA, put_ne (by omega), put_ne (by omega), ht2]
  have q3 : A.tmps[3]? = some (.pointer (some ⟨B2, 0, none⟩)) := by rw [hA, put_ne (by omega), put_ne (by omega), ht3]
  have qd : A.defers = [] := by rw [hA]; exact hd0
  have q1 : A.tmps[n + 1]? = some V1 := by rw [hA]; exact put_eq (by rw [put_size]; omega)
  clear hA hs ht2 ht3 hd0
  refine wpList_do (w' := w) h3.2.2 (v := .pointer (some ⟨B2, K, none⟩)) ?_ ?_
  · simp [execOp, h3.1, eval_of q3, L.f2, Result.andThen]
  rw [h3.2.1]
  refine wpList_do (w' := w) h4.2.2 (v := V2) ?_ ?_
  · have e1 : (A.put (some (n + 2)) (.pointer (some ⟨B2, K, none⟩))).eval (.tmp (n + 2)) = .pointer (some ⟨B2, K, none⟩) := eval_of (put_eq (by omega))
    simp [execOp, h4.1, e1, L.l2, Result.andThen]
  rw [h4.2.1]
  have m1 : ((A.put (some (n + 2)) (.pointer (some ⟨B2, K, none⟩))).put (some (n + 3)) V2).eval (.tmp (n + 1)) = V1 := eval_of (by rw [put_ne (by omega), put_ne (by omega), q1])
  have m3 : ((A.put (some (n + 2)) (.pointer (some ⟨B2, K, none⟩))).put (some (n + 3)) V2).eval (.tmp (n + 3)) = V2 := eval_of (put_eq (by rw [put_size]; omega))
  refine wpList_do (w' := w) h5.2.2 (v := .bool e) ?_ ?_
  · have he2 := he (.tmp (n + 1)) (.tmp (n + 3))
    simp only [execOp, h5.1, m1, m3]
    exact run_value he2
  rw [h5.2.1]
  have m5 : (((A.put (some (n + 2)) (.pointer (some ⟨B2, K, none⟩))).put (some (n + 3)) V2).put (some (n + 4)) (.bool e)).eval (.tmp (n + 4)) = .bool e := eval_of (put_eq (by rw [put_size, put_size]; omega))
  refine wpList_do (w' := w) h6.2.2 (v := .bool e) ?_ ?_
  · simp [execOp, h6.1, m5]
  rw [h6.2.1]
  refine k _ ⟨?_, ?_, ?_, ?_, qd⟩
  · simp only [put_size, q0]
  · rw [put_ne (by omega), put_ne (by omega), put_ne (by omega), put_ne (by omega), q2]
  · rw [put_ne (by omega), put_ne (by omega), put_ne (by omega), put_ne (by omega), q3]
  · exact put_eq (by simp only [put_size]; omega)

/-- A call at two values that are there, if it comes to that; and the '&&' behind it. -/
theorem chain_call {N n gs gi d7 x1 x3 f : Nat} {p1 p2 V1 V2 : Value} {b e : Bool} {ats : Array TypeId} {o5 o6 o7 : Oper}
    (h5 : o5.op = .call { callee := .value (.func f), args := #[.tmp x1, .tmp x3], argTypes := ats } ∧ o5.dst = some n ∧ o5.guard = some (gi, true))
    (h6 : o6.op = .pick (.tmp gs) (.tmp n) (.const (.bool false)) ∧ o6.dst = some (n + 1) ∧ o6.guard = none) (h7 : (o7.op = .move (.tmp (n + 1)) ∨ o7.op = .assign (.tmp (n + 1))) ∧ o7.dst = some d7 ∧ o7.guard = none)
    (hyo : (ops[gi]?).bind (·.dst) = some gs) (hF : Ch a N p1 p2 gs b) (m1 : a.tmps[x1]? = some (opt b V1)) (m3 : a.tmps[x3]? = some (opt b V2)) (hn : 5 ≤ n) (hgs : gs < n) (hN : n + 1 < N) (hd : 3 < d7 ∧ d7 < N)
    (eg : ∀ args w, (callFunc f args).run P w = .ok (.enter f args) w) (hc : b = true → Calls P f #[V1, V2] w fun e' w' => e' = .returned (.bool e) ∧ Kept No w w')
    (k : ∀ a' w', Kept No w w' → Ch a' N p1 p2 d7 (b && e) → wpList P ops Q rest a' w') : wpList P ops Q (o5 :: o6 :: o7 :: rest) a w := by
  refine wpList_callopt (R := fun v w' => v = .bool e ∧ Kept No w w') h5.2.2 (yielded_of hyo hF.g) (f := f) (args := #[V1, V2]) (fun hb => ?_) (fun hb => (hc hb).mono fun e' w' h => ⟨_, h.1, rfl, h.2⟩) (fun v w' h1 h0 => ?_)
  · subst hb
    simp [execOp, h5.1, resolve, invoke, go_sem, opt, Act.eval, eg, m1, m3]
  rw [h5.2.1]
  have hv : v = opt b (.bool e) ∧ Kept No w w' := by
    cases b with
    | true => exact h1 rfl
    | false => obtain ⟨q1, q2⟩ := h0 rfl; subst q2; exact ⟨q1, Kept.refl _ _⟩
  obtain ⟨rfl, hk⟩ := hv
  refine chain_pick h6 h7 (b := b) (e := e) ⟨by rw [put_size]; exact hF.size, ?_, ?_, ?_, hF.d⟩ (put_eq (by rw [hF.size]; omega)) (by omega) (by omega) hd (by omega) (by omega) (fun a' hF' => k a' w' hk hF')
  · rw [put_ne (by omega), hF.t2]
  · rw [put_ne (by omega), hF.t3]
  · rw [put_ne (by omega), hF.g]
/-- The two boxes, whole. -/
theorem chain_whole {N S n gs gi B1 B2 : Nat} {V1 V2 : Value} {b : Bool} {o1 o2 : Oper}
    (h1 : o1.op = .load S (.tmp 2) ∧ o1.dst = some n ∧ o1.guard = some (gi, true)) (h2 : o2.op = .load S (.tmp 3) ∧ o2.dst = some (n + 1) ∧ o2.guard = some (gi, true))
    (hyo : (ops[gi]?).bind (·.dst) = some gs) (hF : Ch a N (.pointer (some ⟨B1, 0, none⟩)) (.pointer (some ⟨B2, 0, none⟩)) gs b) (hn : 5 ≤ n) (hgs : gs < n) (hN : n + 1 < N)
    (l1 : (Instr.loadAt S (.pointer (some ⟨B1, 0, none⟩))).run P w = .ok V1 w) (l2 : (Instr.loadAt S (.pointer (some ⟨B2, 0, none⟩))).run P w = .ok V2 w)
    (k : ∀ a', Ch a' N (.pointer (some ⟨B1, 0, none⟩)) (.pointer (some ⟨B2, 0, none⟩)) gs b → a'.tmps[n]? = some (opt b V1) → a'.tmps[n + 1]? = some (opt b V2) → wpList P ops Q rest a' w) :
    wpList P ops Q (o1 :: o2 :: rest) a w := by
  obtain ⟨hs, ht2, ht3, hg, hd⟩ := hF
  refine wpList_opt h1.2.2 (yielded_of hyo hg) (v := V1) (fun hb => ?_) ?_
  · simp [execOp, h1.1, eval_of ht2, l1, Result.andThen]
  rw [h1.2.1]
  have q2 : (a.put (some n) (opt b V1)).tmps[2]? = some (.pointer (some ⟨B1, 0, none⟩)) := by rw [put_ne (by omega), ht2]
  have q3 : (a.put (some n) (opt b V1)).tmps[3]? = some (.pointer (some ⟨B2, 0, none⟩)) := by rw [put_ne (by omega), ht3]
  have qg : (a.put (some n) (opt b V1)).tmps[gs]? = some (.bool b) := by rw [put_ne (by omega), hg]
  refine wpList_opt h2.2.2 (yielded_of hyo qg) (v := V2) (fun hb => ?_) ?_
  · simp [execOp, h2.1, eval_of q3, l2, Result.andThen]
  rw [h2.2.1]
  refine k _ ⟨?_, ?_, ?_, ?_, hd⟩ ?_ ?_
  · rw [put_size, put_size, hs]
  · rw [put_ne (by omega), q2]
  · rw [put_ne (by omega), q3]
  · rw [put_ne (by omega), qg]
  · rw [put_ne (by omega)]; exact put_eq (by omega)
  · exact put_eq (by rw [put_size]; omega)
/-! The same with '||': what comes next is asked if the Bool says no. -/
theorem wpList_nopt {gi : Nat} {b : Bool} {v : Value} (hg : o.guard = some (gi, false)) (hy : yielded ops a.tmps gi = some b) (h : b = false → (execOp a.eval o).run P w = .ok (.value v) w) (k : wpList P ops Q rest (a.put o.dst (opt (!b) v)) w) : wpList P ops Q (o :: rest) a w := by
  unfold wpList
  cases b with
  | false =>
    rw [if_pos (by simp [Region.wanted, hg, hy])]
    left
    unfold Oper.wp
    rw [h rfl]
    exact k
  | true =>
    rw [if_neg (by simp [Region.wanted, hg, hy])]
    exact k
theorem chain_neq {N S T T' K n gs gi B1 B2 : Nat} {V1 V2 : Value} {b e : Bool} {o1 o2 o3 o4 o5 o6 : Oper}
    (h1 : o1.op = .fieldAddr S (.tmp 2) K ∧ o1.dst = some n ∧ o1.guard = some (gi, false)) (h2 : o2.op = .load T (.tmp n) ∧ o2.dst = some (n + 1) ∧ o2.guard = some (gi, false))
    (h3 : o3.op = .fieldAddr S (.tmp 3) K ∧ o3.dst = some (n + 2) ∧ o3.guard = some (gi, false)) (h4 : o4.op = .load T (.tmp (n + 2)) ∧ o4.dst = some (n + 3) ∧ o4.guard = some (gi, false))
    (h5 : o5.op = .binOp .neq T (.tmp (n + 1)) (.tmp (n + 3)) T' ∧ o5.dst = some (n + 4) ∧ o5.guard = some (gi, false))
    (h6 : o6.op = .pick (.tmp gs) (.const (.bool true)) (.tmp (n + 4)) ∧ o6.dst = some (n + 5) ∧ o6.guard = none)
    (hyo : (ops[gi]?).bind (·.dst) = some gs) (hF : Ch a N (.pointer (some ⟨B1, 0, none⟩)) (.pointer (some ⟨B2, 0, none⟩)) gs b) (hn : 5 ≤ n) (hgs : gs < n) (hN : n + 5 < N)
    (L : Loads2 P S T T' K B1 B2 V1 V2 w) (he : ∀ x y, (do eqGuard .neq T x y V1 V2; binOp .neq T V1 V2 : Sem Value).run P w = .ok (.bool e) w)
    (k : ∀ a', Ch a' N (.pointer (some ⟨B1, 0, none⟩)) (.pointer (some ⟨B2, 0, none⟩)) (n + 5) (b || e) → wpList P ops Q rest a' w) :
    wpList P ops Q (o1 :: o2 :: o3 :: o4 :: o5 :: o6 :: rest) a w := by
  obtain ⟨hs, ht2, ht3, hg, hdf⟩ := hF
  refine wpList_nopt h1.2.2 (yielded_of hyo hg) (v := .pointer (some ⟨B1, K, none⟩)) (fun hb => ?_) ?_
  · simp [execOp, h1.1, eval_of ht2, L.f1, Result.andThen]
  rw [h1.2.1]
  have g1 : (a.put (some n) (opt (!b) (.pointer (some ⟨B1, K, none⟩)))).tmps[gs]? = some (.bool b) := by rw [put_ne (by omega)]; exact hg
  refine wpList_nopt h2.2.2 (yielded_of hyo g1) (v := V1) (fun hb => ?_) ?_
  · subst hb
    have e1 : (a.put (some n) (opt (!false) (.pointer (some ⟨B1, K, none⟩)))).eval (.tmp n) = .pointer (some ⟨B1, K, none⟩) := eval_of (put_eq (by omega))
    simp only [execOp, h2.1, e1]
    exact run_value L.l1
  rw [h2.2.1]
  obtain ⟨A, hA⟩ : ∃ A, A = (a.put (some n) (opt (!b) (.pointer (some ⟨B1, K, none⟩)))).put (some (n + 1)) (opt (!b) V1) := ⟨_, rfl⟩
  rw [← hA]
  have q0 : A.tmps.size = N := by rw [hA, put_size, put_size, hs]
  have q2 : A.tmps[2]? = some (.pointer (some ⟨B1, 0, none⟩)) := by rw [hA, put_ne (by omega), put_ne (by omega), ht2]
  have q3 : A.tmps[3]? = some (.pointer (some ⟨B2, 0, none⟩)) := by rw [hA, put_ne (by omega), put_ne (by omega), ht3]
  have qg : A.tmps[gs]? = some (.bool b) := by rw [hA, put_ne (by omega), put_ne (by omega), hg]
  have qd : A.defers = [] := by rw [hA]; exact hdf
  have q1 : A.tmps[n + 1]? = some (opt (!b) V1) := by rw [hA]; exact put_eq (by rw [put_size]; omega)
  clear hA g1 hs ht2 ht3 hg hdf
  refine wpList_nopt h3.2.2 (yielded_of hyo qg) (v := .pointer (some ⟨B2, K, none⟩)) (fun hb => ?_) ?_
  · simp [execOp, h3.1, eval_of q3, L.f2, Result.andThen]
  rw [h3.2.1]
  have g1 : (A.put (some (n + 2)) (opt (!b) (.pointer (some ⟨B2, K, none⟩)))).tmps[gs]? = some (.bool b) := by rw [put_ne (by omega)]; exact qg
  refine wpList_nopt h4.2.2 (yielded_of hyo g1) (v := V2) (fun hb => ?_) ?_
  · subst hb
    have e1 : (A.put (some (n + 2)) (opt (!false) (.pointer (some ⟨B2, K, none⟩)))).eval (.tmp (n + 2)) = .pointer (some ⟨B2, K, none⟩) := eval_of (put_eq (by omega))
    simp only [execOp, h4.1, e1]
    exact run_value L.l2
  rw [h4.2.1]
  obtain ⟨C, hC⟩ : ∃ C, C = (A.put (some (n + 2)) (opt (!b) (.pointer (some ⟨B2, K, none⟩)))).put (some (n + 3)) (opt (!b) V2) := ⟨_, rfl⟩
  rw [← hC]
  have r0 : C.tmps.size = N := by rw [hC, put_size, put_size, q0]
  have r2 : C.tmps[2]? = some (.pointer (some ⟨B1, 0, none⟩)) := by rw [hC, put_ne (by omega), put_ne (by omega), q2]
  have r3 : C.tmps[3]? = some (.pointer (some ⟨B2, 0, none⟩)) := by rw [hC, put_ne (by omega), put_ne (by omega), q3]
  have rg : C.tmps[gs]? = some (.bool b) := by rw [hC, put_ne (by omega), put_ne (by omega), qg]
  have rd : C.defers = [] := by rw [hC]; exact qd
  have m1 : C.tmps[n + 1]? = some (opt (!b) V1) := by rw [hC, put_ne (by omega), put_ne (by omega), q1]
  have m3 : C.tmps[n + 3]? = some (opt (!b) V2) := by rw [hC]; exact put_eq (by rw [put_size]; omega)
  clear hC g1 q0 q2 q3 qg qd q1
  refine wpList_nopt h5.2.2 (yielded_of hyo rg) (v := .bool e) (fun hb => ?_) ?_
  · subst hb
    have he2 := he (.tmp (n + 1)) (.tmp (n + 3))
    simp only [execOp, h5.1, eval_of m1, eval_of m3, opt, Bool.not_false]
    exact run_value he2
  rw [h5.2.1]
  have s5 : (C.put (some (n + 4)) (opt (!b) (.bool e))).tmps[n + 4]? = some (opt (!b) (.bool e)) := put_eq (by omega)
  have sg : (C.put (some (n + 4)) (opt (!b) (.bool e))).tmps[gs]? = some (.bool b) := by rw [put_ne (by omega), rg]
  have v1 := eval_of sg
  have v2 := eval_of s5
  refine wpList_do (w' := w) h6.2.2 (v := .bool (b || e)) ?_ ?_
  · simp only [execOp, h6.1, v1, v2]
    cases b <;> simp [asBool, opt, Act.eval]
  rw [h6.2.1]
  refine k _ ⟨?_, ?_, ?_, ?_, rd⟩
  · simp only [put_size, r0]
  · rw [put_ne (by omega), put_ne (by omega), r2]
  · rw [put_ne (by omega), put_ne (by omega), r3]
  · exact put_eq (by simp only [put_size]; omega)
theorem chain_move {N g d7 : Nat} {p1 p2 : Value} {b : Bool} {o7 : Oper} (h7 : (o7.op = .move (.tmp g) ∨ o7.op = .assign (.tmp g)) ∧ o7.dst = some d7 ∧ o7.guard = none) (hF : Ch a N p1 p2 g b) (hd : 3 < d7 ∧ d7 < N)
    (k : ∀ a', Ch a' N p1 p2 d7 b → wpList P ops Q rest a' w) : wpList P ops Q (o7 :: rest) a w := by
  refine wpList_do (w' := w) h7.2.2 (v := .bool b) ?_ ?_
  · rcases h7.1 with h | h <;> simp [execOp, h, eval_of hF.g]
  rw [h7.2.1]
  refine k _ ⟨?_, ?_, ?_, ?_, hF.d⟩
  · rw [put_size, hF.size]
  · rw [put_ne (by omega), hF.t2]
  · rw [put_ne (by omega), hF.t3]
  · exact put_eq (by rw [hF.size]; exact hd.2)
end
end Go.Proofs.YtjihgcdhheoniaaGreatDoor

/-
  slices.Equal at filters and at bytes.
-/
namespace Go.Proofs.YtjihgcdhheoniaaGreatDoor
open Go.RowKit
set_option linter.unusedVariables false
set_option linter.unusedSimpArgs false
set_option maxRecDepth 100000

theorem neq_f (i1 i2 : Nat) (a1 a2 : ByteArray) (w : World) : Sem.run Tryz.prog (binOp .neq 54 (.agg #[.string a1, .int .u8 i1]) (.agg #[.string a2, .int .u8 i2])) w = .ok (.bool (!decide ((⟨a1, i1⟩ : Fi) = ⟨a2, i2⟩))) w := by
  have hS : Tryz.prog.underlying 54 = some (.struct (Tryz.prog.fieldsOf 54)) := by kernel_rfl
  have hp : Tryz.prog.stoodInHeld 54 = false := by kernel_rfl
  rw [run_neq_struct, show (10000 : Nat) = 9999 + 1 from rfl, run_equalIn_agg w 9999 54 _ _ hS hp]
  simp only [Program.fieldsOf, Tryz.underlying54]
  have u0 := Tryz.underlying5
  have u2 := Tryz.underlying9
  go_simp
  by_cases h1 : i1 = i2 <;> by_cases h3 : a1 = a2 <;> simp [h1, h3, toList_inj, Int.natCast_inj]
theorem take_sameX {α : Type} {L M : List α} {j : Nat} (h : L.take j = M.take j) (h1 : j < L.length) (h2 : j < M.length) (he : L[j] = M[j]) : L.take (j + 1) = M.take (j + 1) := by
  rw [List.take_succ_eq_append_getElem h1, List.take_succ_eq_append_getElem h2, h, he]
theorem ne_atX {α : Type} [DecidableEq α] {L M : List α} {j : Nat} (h1 : j < L.length) (h2 : j < M.length) (he : L[j] ≠ M[j]) : decide (L = M) = false := by
  refine decide_eq_false fun e => he ?_
  subst e
  rfl
theorem byte_at {w : World} {a : Option Addr} {L : List UInt8} (h : Row w a (B8 L)) {k : Nat} (hk : k < L.length) : ∃ b off, a = some ⟨b, off, none⟩ ∧ b < w.heap.size ∧ w.cell? ⟨b, off + k, none⟩ = some (.int .u8 L[k].toNat) := by
  obtain ⟨b, off, ha, hb, hc⟩ := h.at_ (k := k) (by simpa using hk)
  exact ⟨b, off, ha, hb, by rw [hc]; simp [B8]⟩
set_option maxHeartbeats 4000000 in
theorem fequal_any (a : Option Addr) (c : Nat) (L : List Fi) (a9 : Option Addr) (c9 : Nat) (M : List Fi) (w : World) (hr : Row w a (FC L)) (hr9 : Row w a9 (FC M)) (hl : L.length ≤ 100000) (hl9 : M.length ≤ 100000) :
    Calls Tryz.prog 40 #[.slice a L.length c, .slice a9 M.length c9] w fun e w' => e = .returned (.bool (decide (L = M))) ∧ Kept No w w' := by
  by_cases hlen : L.length = M.length
  · have HL := Lib.hid hlen
    have hne : ((L.length : Int) != (M.length : Int)) = false := by simp; omega
    clear hlen
    go_enter Tryz.func40, Tryz.ntmps40
    go_wp2
    go_loopw [13] (fun i wr => ∃ j : Nat, i = .int .i64 j ∧ j ≤ L.length ∧ Hid (L.take j = M.take j) ∧ Kept No w wr) (fun i _ => L.length - (intOf i).toNat)
    case atStart => exact ⟨0, rfl, by omega, Lib.hid rfl, Kept.refl _ _⟩
    case round =>
      obtain ⟨j, rfl, hj, HT, hk⟩ := hrel
      by_cases hlt : j < L.length
      · have hlt9 : j < M.length := by rw [← HL.out]; exact hlt
        obtain ⟨b, off, rfl, hb, q0, q1⟩ := (hr.keptNo hk).filt hlt
        obtain ⟨b9, of9, rfl, hb9, r0, r1⟩ := (hr9.keptNo hk).filt hlt9
        have HS := Lib.hid (take_sameX HT.out hlt hlt9)
        have HN := Lib.hid (ne_atX (L := L) (M := M) hlt hlt9)
        generalize L[j] = p at *
        generalize M[j] = q at *
        obtain ⟨a1, i1⟩ := p
        obtain ⟨a2, i2⟩ := q
        dsimp only at q0 q1 r0 r1
        by_cases he : (⟨a1, i1⟩ : Fi) = ⟨a2, i2⟩
        · have HS2 := Lib.hid (HS.out he)
          have hq : ∀ wx, Sem.run Tryz.prog (binOp .neq 54 (.agg #[.string a1, .int .u8 i1]) (.agg #[.string a2, .int .u8 i2])) wx = .ok (.bool false) wx := fun wx => by rw [neq_f, decide_eq_true he]; rfl
          clear he HS HN
          go_wp2
          refine wp_region_held_drew (S := (fun wx => (wx.cell? ⟨b, off + j * 2, none⟩ = some (.string a1) ∧ wx.cell? ⟨b, off + j * 2 + 1, none⟩ = some (.int .u8 i1)) ∧ (wx.cell? ⟨b9, of9 + j * 2, none⟩ = some (.string a2) ∧ wx.cell? ⟨b9, of9 + j * 2 + 1, none⟩ = some (.int .u8 i2)))) (by kernel_rfl) ?_ (fun hHeld => ?_)
          · exact ⟨⟨q0, q1⟩, ⟨r0, r1⟩⟩
          refine wpAnyH_take (i := 0) (v := ?vvpy0) rfl (by kernel_rfl) (by kernel_rfl) (by kernel_rfl) (fun _ _ _ h => h) (Or.inl ⟨by rfl, ?hhpy0⟩) (by assumption) ?rrpy0
          case hhpy0 => (intro wz9 hSw; (try dsimp only at hSw); go_simp; try with_reducible rfl)
          go_simp
          refine wpAnyH_take (i := 1) (v := ?vvpy1) rfl (by kernel_rfl) (by kernel_rfl) (by kernel_rfl) (fun _ _ _ h => h) (Or.inl ⟨by rfl, ?hhpy1⟩) (by assumption) ?rrpy1
          case hhpy1 => (intro wz9 hSw; (try dsimp only at hSw); go_simp; try with_reducible rfl)
          go_simp
          refine wpAnyH_take (i := 2) (v := ?vvpy2) rfl (by kernel_rfl) (by kernel_rfl) (by kernel_rfl) (fun _ _ _ h => h) (Or.inl ⟨by rfl, ?hhpy2⟩) (by assumption) ?rrpy2
          case hhpy2 => (intro wz9 hSw; (try dsimp only at hSw); go_simp; try with_reducible rfl)
          go_simp
          refine wpAnyH_take (i := 3) (v := (.agg #[.string a1, .int .u8 i1])) rfl (by kernel_rfl) (by kernel_rfl) (by kernel_rfl) (fun _ _ _ h => h) (Or.inl ⟨by rfl, ?hhpy3⟩) (by assumption) ?rrpy3
          case hhpy3 => (intro wz9 hSw; (try dsimp only at hSw); go_simp; try with_reducible rfl)
          go_simp
          refine wpAnyH_take (i := 4) (v := ?vvpy4) rfl (by kernel_rfl) (by kernel_rfl) (by kernel_rfl) (fun _ _ _ h => h) (Or.inl ⟨by rfl, ?hhpy4⟩) (by assumption) ?rrpy4
          case hhpy4 => (intro wz9 hSw; (try dsimp only at hSw); go_simp; try with_reducible rfl)
          go_simp
          refine wpAnyH_take (i := 5) (v := ?vvpy5) rfl (by kernel_rfl) (by kernel_rfl) (by kernel_rfl) (fun _ _ _ h => h) (Or.inl ⟨by rfl, ?hhpy5⟩) (by assumption) ?rrpy5
          case hhpy5 => (intro wz9 hSw; (try dsimp only at hSw); go_simp; try with_reducible rfl)
          go_simp
          refine wpAnyH_take (i := 6) (v := ?vvpy6) rfl (by kernel_rfl) (by kernel_rfl) (by kernel_rfl) (fun _ _ _ h => h) (Or.inl ⟨by rfl, ?hhpy6⟩) (by assumption) ?rrpy6
          case hhpy6 => (intro wz9 hSw; (try dsimp only at hSw); go_simp; try with_reducible rfl)
          go_simp
          refine wpAnyH_take (i := 7) (v := (.agg #[.string a2, .int .u8 i2])) rfl (by kernel_rfl) (by kernel_rfl) (by kernel_rfl) (fun _ _ _ h => h) (Or.inl ⟨by rfl, ?hhpy7⟩) (by assumption) ?rrpy7
          case hhpy7 => (intro wz9 hSw; (try dsimp only at hSw); go_simp; try with_reducible rfl)
          go_simp
          refine wpAnyH_take (i := 8) (v := (.bool false)) rfl (by kernel_rfl) (by kernel_rfl) (by kernel_rfl) (fun _ _ _ h => h) (Or.inl ⟨by rfl, ?hhpy8⟩) (by assumption) ?rrpy8
          case hhpy8 => (intro wz9 hSw; (try dsimp only at hSw); go_simp; try with_reducible rfl)
          go_simp
          refine wpAnyH_done (by kernel_rfl) ?_ _
          go_wp2
          go_roundw
          case rel => exact ⟨j + 1, by go_num, by omega, HS2, hk.drew⟩
          case measure => simp [intOf]; omega
        · have HN2 := Lib.hid (HN.out he)
          have hq : ∀ wx, Sem.run Tryz.prog (binOp .neq 54 (.agg #[.string a1, .int .u8 i1]) (.agg #[.string a2, .int .u8 i2])) wx = .ok (.bool true) wx := fun wx => by rw [neq_f, decide_eq_false he]; rfl
          clear he HS HN
          go_wp2
          refine wp_region_held_drew (S := (fun wx => (wx.cell? ⟨b, off + j * 2, none⟩ = some (.string a1) ∧ wx.cell? ⟨b, off + j * 2 + 1, none⟩ = some (.int .u8 i1)) ∧ (wx.cell? ⟨b9, of9 + j * 2, none⟩ = some (.string a2) ∧ wx.cell? ⟨b9, of9 + j * 2 + 1, none⟩ = some (.int .u8 i2)))) (by kernel_rfl) ?_ (fun hHeld => ?_)
          · exact ⟨⟨q0, q1⟩, ⟨r0, r1⟩⟩
          refine wpAnyH_take (i := 0) (v := ?vvpn0) rfl (by kernel_rfl) (by kernel_rfl) (by kernel_rfl) (fun _ _ _ h => h) (Or.inl ⟨by rfl, ?hhpn0⟩) (by assumption) ?rrpn0
          case hhpn0 => (intro wz9 hSw; (try dsimp only at hSw); go_simp; try with_reducible rfl)
          go_simp
          refine wpAnyH_take (i := 1) (v := ?vvpn1) rfl (by kernel_rfl) (by kernel_rfl) (by kernel_rfl) (fun _ _ _ h => h) (Or.inl ⟨by rfl, ?hhpn1⟩) (by assumption) ?rrpn1
          case hhpn1 => (intro wz9 hSw; (try dsimp only at hSw); go_simp; try with_reducible rfl)
          go_simp
          refine wpAnyH_take (i := 2) (v := ?vvpn2) rfl (by kernel_rfl) (by kernel_rfl) (by kernel_rfl) (fun _ _ _ h => h) (Or.inl ⟨by rfl, ?hhpn2⟩) (by assumption) ?rrpn2
          case hhpn2 => (intro wz9 hSw; (try dsimp only at hSw); go_simp; try with_reducible rfl)
          go_simp
          refine wpAnyH_take (i := 3) (v := (.agg #[.string a1, .int .u8 i1])) rfl (by kernel_rfl) (by kernel_rfl) (by kernel_rfl) (fun _ _ _ h => h) (Or.inl ⟨by rfl, ?hhpn3⟩) (by assumption) ?rrpn3
          case hhpn3 => (intro wz9 hSw; (try dsimp only at hSw); go_simp; try with_reducible rfl)
          go_simp
          refine wpAnyH_take (i := 4) (v := ?vvpn4) rfl (by kernel_rfl) (by kernel_rfl) (by kernel_rfl) (fun _ _ _ h => h) (Or.inl ⟨by rfl, ?hhpn4⟩) (by assumption) ?rrpn4
          case hhpn4 => (intro wz9 hSw; (try dsimp only at hSw); go_simp; try with_reducible rfl)
          go_simp
          refine wpAnyH_take (i := 5) (v := ?vvpn5) rfl (by kernel_rfl) (by kernel_rfl) (by kernel_rfl) (fun _ _ _ h => h) (Or.inl ⟨by rfl, ?hhpn5⟩) (by assumption) ?rrpn5
          case hhpn5 => (intro wz9 hSw; (try dsimp only at hSw); go_simp; try with_reducible rfl)
          go_simp
          refine wpAnyH_take (i := 6) (v := ?vvpn6) rfl (by kernel_rfl) (by kernel_rfl) (by kernel_rfl) (fun _ _ _ h => h) (Or.inl ⟨by rfl, ?hhpn6⟩) (by assumption) ?rrpn6
          case hhpn6 => (intro wz9 hSw; (try dsimp only at hSw); go_simp; try with_reducible rfl)
          go_simp
          refine wpAnyH_take (i := 7) (v := (.agg #[.string a2, .int .u8 i2])) rfl (by kernel_rfl) (by kernel_rfl) (by kernel_rfl) (fun _ _ _ h => h) (Or.inl ⟨by rfl, ?hhpn7⟩) (by assumption) ?rrpn7
          case hhpn7 => (intro wz9 hSw; (try dsimp only at hSw); go_simp; try with_reducible rfl)
          go_simp
          refine wpAnyH_take (i := 8) (v := (.bool true)) rfl (by kernel_rfl) (by kernel_rfl) (by kernel_rfl) (fun _ _ _ h => h) (Or.inl ⟨by rfl, ?hhpn8⟩) (by assumption) ?rrpn8
          case hhpn8 => (intro wz9 hSw; (try dsimp only at hSw); go_simp; try with_reducible rfl)
          go_simp
          refine wpAnyH_done (by kernel_rfl) ?_ _
          go_wp2
          go_ret
          exact ⟨by rw [HN2.out]; rfl, hk.drew⟩
      · have HE : Hid (decide (L = M) = true) := Lib.hid (by
          have := HT.out
          have h9 := HL.out
          rw [List.take_of_length_le (by omega), List.take_of_length_le (by omega)] at this
          exact decide_eq_true this)
        go_wp2
        go_ret
        exact ⟨by rw [HE.out]; rfl, hk⟩
  · have hne : ((L.length : Int) != (M.length : Int)) = true := by simp; omega
    have HE : Hid (decide (L = M) = false) := Lib.hid (decide_eq_false fun e => hlen (by rw [e]))
    generalize decide (L = M) = DD at *
    clear hlen
    go_enter Tryz.func40, Tryz.ntmps40
    go_wp2
    go_ret
    exact ⟨by rw [HE.out]; rfl, Kept.refl _ _⟩
set_option maxHeartbeats 4000000 in
theorem cequal_any (a : Option Addr) (c : Nat) (L : List UInt8) (a9 : Option Addr) (c9 : Nat) (M : List UInt8) (w : World) (hr : Row w a (B8 L)) (hr9 : Row w a9 (B8 M)) (hl : L.length ≤ 100000) (hl9 : M.length ≤ 100000) :
    Calls Tryz.prog 41 #[.slice a L.length c, .slice a9 M.length c9] w fun e w' => e = .returned (.bool (decide (L = M))) ∧ Kept No w w' := by
  by_cases hlen : L.length = M.length
  · have HL := Lib.hid hlen
    have hne : ((L.length : Int) != (M.length : Int)) = false := by simp; omega
    clear hlen
    go_enter Tryz.func41, Tryz.ntmps41
    go_wp2
    go_loopw [13] (fun i wr => ∃ j : Nat, i = .int .i64 j ∧ j ≤ L.length ∧ Hid (L.take j = M.take j) ∧ Kept No w wr) (fun i _ => L.length - (intOf i).toNat)
    case atStart => exact ⟨0, rfl, by omega, Lib.hid rfl, Kept.refl _ _⟩
    case round =>
      obtain ⟨j, rfl, hj, HT, hk⟩ := hrel
      by_cases hlt : j < L.length
      · have hlt9 : j < M.length := by rw [← HL.out]; exact hlt
        obtain ⟨b, off, rfl, hb, q0⟩ := byte_at (hr.keptNo hk) hlt
        obtain ⟨b9, of9, rfl, hb9, r0⟩ := byte_at (hr9.keptNo hk) hlt9
        have HS := Lib.hid (take_sameX HT.out hlt hlt9)
        have HN := Lib.hid (ne_atX (L := L) (M := M) hlt hlt9)
        generalize L[j] = p at *
        generalize M[j] = q at *
        by_cases he : p = q
        · have HS2 := Lib.hid (HS.out he)
          have hq : ((p.toNat : Int) != (q.toNat : Int)) = false := by rw [he]; simp
          clear he HS HN
          go_wp2
          refine wp_region_held_drew (S := (fun wx => wx.cell? ⟨b, off + j, none⟩ = some (.int .u8 p.toNat) ∧ wx.cell? ⟨b9, of9 + j, none⟩ = some (.int .u8 q.toNat))) (by kernel_rfl) ?_ (fun hHeld => ?_)
          · exact ⟨q0, r0⟩
          refine wpAnyH_take (i := 0) (v := ?vvpy0) rfl (by kernel_rfl) (by kernel_rfl) (by kernel_rfl) (fun _ _ _ h => h) (Or.inl ⟨by rfl, ?hhpy0⟩) (by assumption) ?rrpy0
          case hhpy0 => (intro wz9 hSw; (try dsimp only at hSw); go_simp; try with_reducible rfl)
          go_simp
          refine wpAnyH_take (i := 1) (v := ?vvpy1) rfl (by kernel_rfl) (by kernel_rfl) (by kernel_rfl) (fun _ _ _ h => h) (Or.inl ⟨by rfl, ?hhpy1⟩) (by assumption) ?rrpy1
          case hhpy1 => (intro wz9 hSw; (try dsimp only at hSw); go_simp; try with_reducible rfl)
          go_simp
          refine wpAnyH_take (i := 2) (v := ?vvpy2) rfl (by kernel_rfl) (by kernel_rfl) (by kernel_rfl) (fun _ _ _ h => h) (Or.inl ⟨by rfl, ?hhpy2⟩) (by assumption) ?rrpy2
          case hhpy2 => (intro wz9 hSw; (try dsimp only at hSw); go_simp; try with_reducible rfl)
          go_simp
          refine wpAnyH_take (i := 3) (v := (.int .u8 p.toNat)) rfl (by kernel_rfl) (by kernel_rfl) (by kernel_rfl) (fun _ _ _ h => h) (Or.inl ⟨by rfl, ?hhpy3⟩) (by assumption) ?rrpy3
          case hhpy3 => (intro wz9 hSw; (try dsimp only at hSw); go_simp; try with_reducible rfl)
          go_simp
          refine wpAnyH_take (i := 4) (v := ?vvpy4) rfl (by kernel_rfl) (by kernel_rfl) (by kernel_rfl) (fun _ _ _ h => h) (Or.inl ⟨by rfl, ?hhpy4⟩) (by assumption) ?rrpy4
          case hhpy4 => (intro wz9 hSw; (try dsimp only at hSw); go_simp; try with_reducible rfl)
          go_simp
          refine wpAnyH_take (i := 5) (v := ?vvpy5) rfl (by kernel_rfl) (by kernel_rfl) (by kernel_rfl) (fun _ _ _ h => h) (Or.inl ⟨by rfl, ?hhpy5⟩) (by assumption) ?rrpy5
          case hhpy5 => (intro wz9 hSw; (try dsimp only at hSw); go_simp; try with_reducible rfl)
          go_simp
          refine wpAnyH_take (i := 6) (v := ?vvpy6) rfl (by kernel_rfl) (by kernel_rfl) (by kernel_rfl) (fun _ _ _ h => h) (Or.inl ⟨by rfl, ?hhpy6⟩) (by assumption) ?rrpy6
          case hhpy6 => (intro wz9 hSw; (try dsimp only at hSw); go_simp; try with_reducible rfl)
          go_simp
          refine wpAnyH_take (i := 7) (v := (.int .u8 q.toNat)) rfl (by kernel_rfl) (by kernel_rfl) (by kernel_rfl) (fun _ _ _ h => h) (Or.inl ⟨by rfl, ?hhpy7⟩) (by assumption) ?rrpy7
          case hhpy7 => (intro wz9 hSw; (try dsimp only at hSw); go_simp; try with_reducible rfl)
          go_simp
          refine wpAnyH_take (i := 8) (v := (.bool false)) rfl (by kernel_rfl) (by kernel_rfl) (by kernel_rfl) (fun _ _ _ h => h) (Or.inl ⟨by rfl, ?hhpy8⟩) (by assumption) ?rrpy8
          case hhpy8 => (intro wz9 hSw; (try dsimp only at hSw); go_simp; try with_reducible rfl)
          go_simp
          refine wpAnyH_done (by kernel_rfl) ?_ _
          go_wp2
          go_roundw
          case rel => exact ⟨j + 1, by go_num, by omega, HS2, hk.drew⟩
          case measure => simp [intOf]; omega
        · have HN2 := Lib.hid (HN.out he)
          have hq : ((p.toNat : Int) != (q.toNat : Int)) = true := by (have : p.toNat ≠ q.toNat := fun h => he (UInt8.toNat_inj.1 h)); simp; omega
          clear he HS HN
          go_wp2
          refine wp_region_held_drew (S := (fun wx => wx.cell? ⟨b, off + j, none⟩ = some (.int .u8 p.toNat) ∧ wx.cell? ⟨b9, of9 + j, none⟩ = some (.int .u8 q.toNat))) (by kernel_rfl) ?_ (fun hHeld => ?_)
          · exact ⟨q0, r0⟩
          refine wpAnyH_take (i := 0) (v := ?vvpn0) rfl (by kernel_rfl) (by kernel_rfl) (by kernel_rfl) (fun _ _ _ h => h) (Or.inl ⟨by rfl, ?hhpn0⟩) (by assumption) ?rrpn0
          case hhpn0 => (intro wz9 hSw; (try dsimp only at hSw); go_simp; try with_reducible rfl)
          go_simp
          refine wpAnyH_take (i := 1) (v := ?vvpn1) rfl (by kernel_rfl) (by kernel_rfl) (by kernel_rfl) (fun _ _ _ h => h) (Or.inl ⟨by rfl, ?hhpn1⟩) (by assumption) ?rrpn1
          case hhpn1 => (intro wz9 hSw; (try dsimp only at hSw); go_simp; try with_reducible rfl)
          go_simp
          refine wpAnyH_take (i := 2) (v := ?vvpn2) rfl (by kernel_rfl) (by kernel_rfl) (by kernel_rfl) (fun _ _ _ h => h) (Or.inl ⟨by rfl, ?hhpn2⟩) (by assumption) ?rrpn2
          case hhpn2 => (intro wz9 hSw; (try dsimp only at hSw); go_simp; try with_reducible rfl)
          go_simp
          refine wpAnyH_take (i := 3) (v := (.int .u8 p.toNat)) rfl (by kernel_rfl) (by kernel_rfl) (by kernel_rfl) (fun _ _ _ h => h) (Or.inl ⟨by rfl, ?hhpn3⟩) (by assumption) ?rrpn3
          case hhpn3 => (intro wz9 hSw; (try dsimp only at hSw); go_simp; try with_reducible rfl)
          go_simp
          refine wpAnyH_take (i := 4) (v := ?vvpn4) rfl (by kernel_rfl) (by kernel_rfl) (by kernel_rfl) (fun _ _ _ h => h) (Or.inl ⟨by rfl, ?hhpn4⟩) (by assumption) ?rrpn4
          case hhpn4 => (intro wz9 hSw; (try dsimp only at hSw); go_simp; try with_reducible rfl)
          go_simp
          refine wpAnyH_take (i := 5) (v := ?vvpn5) rfl (by kernel_rfl) (by kernel_rfl) (by kernel_rfl) (fun _ _ _ h => h) (Or.inl ⟨by rfl, ?hhpn5⟩) (by assumption) ?rrpn5
          case hhpn5 => (intro wz9 hSw; (try dsimp only at hSw); go_simp; try with_reducible rfl)
          go_simp
          refine wpAnyH_take (i := 6) (v := ?vvpn6) rfl (by kernel_rfl) (by kernel_rfl) (by kernel_rfl) (fun _ _ _ h => h) (Or.inl ⟨by rfl, ?hhpn6⟩) (by assumption) ?rrpn6
          case hhpn6 => (intro wz9 hSw; (try dsimp only at hSw); go_simp; try with_reducible rfl)
          go_simp
          refine wpAnyH_take (i := 7) (v := (.int .u8 q.toNat)) rfl (by kernel_rfl) (by kernel_rfl) (by kernel_rfl) (fun _ _ _ h => h) (Or.inl ⟨by rfl, ?hhpn7⟩) (by assumption) ?rrpn7
          case hhpn7 => (intro wz9 hSw; (try dsimp only at hSw); go_simp; try with_reducible rfl)
          go_simp
          refine wpAnyH_take (i := 8) (v := (.bool true)) rfl (by kernel_rfl) (by kernel_rfl) (by kernel_rfl) (fun _ _ _ h => h) (Or.inl ⟨by rfl, ?hhpn8⟩) (by assumption) ?rrpn8
          case hhpn8 => (intro wz9 hSw; (try dsimp only at hSw); go_simp; try with_reducible rfl)
          go_simp
          refine wpAnyH_done (by kernel_rfl) ?_ _
          go_wp2
          go_ret
          exact ⟨by rw [HN2.out]; rfl, hk.drew⟩
      · have HE : Hid (decide (L = M) = true) := Lib.hid (by
          have := HT.out
          have h9 := HL.out
          rw [List.take_of_length_le (by omega), List.take_of_length_le (by omega)] at this
          exact decide_eq_true this)
        go_wp2
        go_ret
        exact ⟨by rw [HE.out]; rfl, hk⟩
  · have hne : ((L.length : Int) != (M.length : Int)) = true := by simp; omega
    have HE : Hid (decide (L = M) = false) := Lib.hid (decide_eq_false fun e => hlen (by rw [e]))
    generalize decide (L = M) = DD at *
    clear hlen
    go_enter Tryz.func41, Tryz.ntmps41
    go_wp2
    go_ret
    exact ⟨by rw [HE.out]; rfl, Kept.refl _ _⟩

end Go.Proofs.YtjihgcdhheoniaaGreatDoor

/-
  packet.sameWill, packet.Same: made by mkpks.py.
-/
namespace Go.Proofs.YtjihgcdhheoniaaGreatDoor
open Go.RowKit
set_option linter.unusedVariables false
set_option linter.unusedSimpArgs false
set_option maxRecDepth 100000

theorem eql_int {T : TypeId} {k : IntKind} (u : Tryz.prog.underlying T = some (.int k)) (i j : Int) (w : World) : ∀ x y, (do eqGuard .eql T x y (.int k i) (.int k j); binOp .eql T (.int k i) (.int k j) : Sem Value).run Tryz.prog w = .ok (.bool (decide (i = j))) w := by
  intro x y
  have e : (i == j) = decide (i = j) := by rw [Bool.eq_iff_iff]; simp
  go_simp
theorem eql_nat {T : TypeId} {k : IntKind} (u : Tryz.prog.underlying T = some (.int k)) (i j : Nat) (w : World) : ∀ x y, (do eqGuard .eql T x y (.int k i) (.int k j); binOp .eql T (.int k i) (.int k j) : Sem Value).run Tryz.prog w = .ok (.bool (decide (i = j))) w := by
  intro x y
  rw [eql_int u]
  simp [Int.natCast_inj]
theorem eql_bool {T : TypeId} (u : Tryz.prog.underlying T = some .bool) (i j : Bool) (w : World) : ∀ x y, (do eqGuard .eql T x y (.bool i) (.bool j); binOp .eql T (.bool i) (.bool j) : Sem Value).run Tryz.prog w = .ok (.bool (decide (i = j))) w := by
  intro x y
  cases i <;> cases j <;> go_simp
theorem eql_str {T : TypeId} (u : Tryz.prog.underlying T = some .string) (i j : ByteArray) (w : World) : ∀ x y, (do eqGuard .eql T x y (.string i) (.string j); binOp .eql T (.string i) (.string j) : Sem Value).run Tryz.prog w = .ok (.bool (decide (i = j))) w := by
  intro x y
  have e : (i.toList == j.toList) = decide (i = j) := by rw [Bool.eq_iff_iff]; simp [toList_inj]
  go_simp
theorem wp_ret_any {P : Program} {Q : Exit → Act → World → Prop} {a : Act} {w : World} (h : Q .ret a w) : Code.ret.wp P Q a w := by
  go_wp2
  exact h
theorem load_agg {P : Program} {S k : Nat} (c : Array Value) (hc : c.size = k) (B : Nat) (w : World) (e1 : (isAgg S).run P w = .ok true w) (e2 : (Go.sizeOf S).run P w = .ok k w) (h : ∀ i, w.cell? ⟨B, i, none⟩ = c[i]?) :
    (Instr.loadAt S (.pointer (some ⟨B, 0, none⟩))).run P w = .ok (.agg c) w := by
  have e3 := run_loadCells (P := P) (w := w) ⟨B, 0, none⟩ k (fun j => c.getD j undef) (fun j hj => by
    have e : (⟨B, 0, none⟩ : Addr).add j = ⟨B, j, none⟩ := by simp [Addr.add]; intro h; exact h.symm
    rw [e, h j]
    simp [Array.getD_eq_getD_getElem?, hc, hj])
  have e4 : ((List.range k).map fun j => c.getD j undef).toArray = c := by
    apply Array.ext
    · simp [hc]
    · intro i h1 h2
      simp [Array.getD_eq_getD_getElem?, h2]
  rw [e4] at e3
  have e6 : loadCells (⟨B, 0, none⟩ : Addr) k = loadCellsFrom ⟨B, 0, none⟩ 0 k #[] := rfl
  rw [e6] at e3
  simp [Instr.loadAt, go_sem, e1, e2, e3]
theorem pkl_whole (B : Nat) (p : Pk) (s : Sl) (w : World) (h : ∀ i, w.cell? ⟨B, i, none⟩ = (p.cells s)[i]?) : (Instr.loadAt 33 (.pointer (some ⟨B, 0, none⟩))).run Tryz.prog w = .ok (p.val s) w := by
  have u := Tryz.underlying33
  exact load_agg (k := 25) (p.cells s) rfl B w (by go_simp) (by go_simp) h
theorem pkf0 (B : Nat) (w : World) : (Instr.fieldAt 33 (.pointer (some ⟨B, 0, none⟩)) 0).run Tryz.prog w = .ok (.pointer (some ⟨B, 0, none⟩)) w := by
  have u := Tryz.underlying33
  go_simp
theorem pkf1 (B : Nat) (w : World) : (Instr.fieldAt 33 (.pointer (some ⟨B, 0, none⟩)) 1).run Tryz.prog w = .ok (.pointer (some ⟨B, 1, none⟩)) w := by
  have u := Tryz.underlying33
  go_simp
theorem pkf2 (B : Nat) (w : World) : (Instr.fieldAt 33 (.pointer (some ⟨B, 0, none⟩)) 2).run Tryz.prog w = .ok (.pointer (some ⟨B, 2, none⟩)) w := by
  have u := Tryz.underlying33
  go_simp
theorem pkf3 (B : Nat) (w : World) : (Instr.fieldAt 33 (.pointer (some ⟨B, 0, none⟩)) 3).run Tryz.prog w = .ok (.pointer (some ⟨B, 3, none⟩)) w := by
  have u := Tryz.underlying33
  go_simp
theorem pkf4 (B : Nat) (w : World) : (Instr.fieldAt 33 (.pointer (some ⟨B, 0, none⟩)) 4).run Tryz.prog w = .ok (.pointer (some ⟨B, 4, none⟩)) w := by
  have u := Tryz.underlying33
  go_simp
theorem pkf5 (B : Nat) (w : World) : (Instr.fieldAt 33 (.pointer (some ⟨B, 0, none⟩)) 5).run Tryz.prog w = .ok (.pointer (some ⟨B, 5, none⟩)) w := by
  have u := Tryz.underlying33
  go_simp
theorem pkf6 (B : Nat) (w : World) : (Instr.fieldAt 33 (.pointer (some ⟨B, 0, none⟩)) 6).run Tryz.prog w = .ok (.pointer (some ⟨B, 6, none⟩)) w := by
  have u := Tryz.underlying33
  go_simp
theorem pkf7 (B : Nat) (w : World) : (Instr.fieldAt 33 (.pointer (some ⟨B, 0, none⟩)) 7).run Tryz.prog w = .ok (.pointer (some ⟨B, 7, none⟩)) w := by
  have u := Tryz.underlying33
  go_simp
theorem pkf8 (B : Nat) (w : World) : (Instr.fieldAt 33 (.pointer (some ⟨B, 0, none⟩)) 8).run Tryz.prog w = .ok (.pointer (some ⟨B, 8, none⟩)) w := by
  have u := Tryz.underlying33
  go_simp
theorem pkf9 (B : Nat) (w : World) : (Instr.fieldAt 33 (.pointer (some ⟨B, 0, none⟩)) 9).run Tryz.prog w = .ok (.pointer (some ⟨B, 9, none⟩)) w := by
  have u := Tryz.underlying33
  go_simp
theorem pkf10 (B : Nat) (w : World) : (Instr.fieldAt 33 (.pointer (some ⟨B, 0, none⟩)) 10).run Tryz.prog w = .ok (.pointer (some ⟨B, 10, none⟩)) w := by
  have u := Tryz.underlying33
  go_simp
theorem pkf11 (B : Nat) (w : World) : (Instr.fieldAt 33 (.pointer (some ⟨B, 0, none⟩)) 11).run Tryz.prog w = .ok (.pointer (some ⟨B, 11, none⟩)) w := by
  have u := Tryz.underlying33
  go_simp
theorem pkf12 (B : Nat) (w : World) : (Instr.fieldAt 33 (.pointer (some ⟨B, 0, none⟩)) 12).run Tryz.prog w = .ok (.pointer (some ⟨B, 12, none⟩)) w := by
  have u := Tryz.underlying33
  go_simp
theorem pkf13 (B : Nat) (w : World) : (Instr.fieldAt 33 (.pointer (some ⟨B, 0, none⟩)) 13).run Tryz.prog w = .ok (.pointer (some ⟨B, 13, none⟩)) w := by
  have u := Tryz.underlying33
  go_simp
theorem pkf14 (B : Nat) (w : World) : (Instr.fieldAt 33 (.pointer (some ⟨B, 0, none⟩)) 14).run Tryz.prog w = .ok (.pointer (some ⟨B, 14, none⟩)) w := by
  have u := Tryz.underlying33
  go_simp
theorem pkf15 (B : Nat) (w : World) : (Instr.fieldAt 33 (.pointer (some ⟨B, 0, none⟩)) 15).run Tryz.prog w = .ok (.pointer (some ⟨B, 15, none⟩)) w := by
  have u := Tryz.underlying33
  go_simp
theorem pkf16 (B : Nat) (w : World) : (Instr.fieldAt 33 (.pointer (some ⟨B, 0, none⟩)) 16).run Tryz.prog w = .ok (.pointer (some ⟨B, 16, none⟩)) w := by
  have u := Tryz.underlying33
  go_simp
theorem pkf17 (B : Nat) (w : World) : (Instr.fieldAt 33 (.pointer (some ⟨B, 0, none⟩)) 17).run Tryz.prog w = .ok (.pointer (some ⟨B, 17, none⟩)) w := by
  have u := Tryz.underlying33
  go_simp
theorem pkf18 (B : Nat) (w : World) : (Instr.fieldAt 33 (.pointer (some ⟨B, 0, none⟩)) 18).run Tryz.prog w = .ok (.pointer (some ⟨B, 18, none⟩)) w := by
  have u := Tryz.underlying33
  go_simp
theorem pkf19 (B : Nat) (w : World) : (Instr.fieldAt 33 (.pointer (some ⟨B, 0, none⟩)) 19).run Tryz.prog w = .ok (.pointer (some ⟨B, 19, none⟩)) w := by
  have u := Tryz.underlying33
  go_simp
theorem pkf20 (B : Nat) (w : World) : (Instr.fieldAt 33 (.pointer (some ⟨B, 0, none⟩)) 20).run Tryz.prog w = .ok (.pointer (some ⟨B, 20, none⟩)) w := by
  have u := Tryz.underlying33
  go_simp
theorem pkf21 (B : Nat) (w : World) : (Instr.fieldAt 33 (.pointer (some ⟨B, 0, none⟩)) 21).run Tryz.prog w = .ok (.pointer (some ⟨B, 21, none⟩)) w := by
  have u := Tryz.underlying33
  go_simp
theorem pkf22 (B : Nat) (w : World) : (Instr.fieldAt 33 (.pointer (some ⟨B, 0, none⟩)) 22).run Tryz.prog w = .ok (.pointer (some ⟨B, 22, none⟩)) w := by
  have u := Tryz.underlying33
  go_simp
theorem pkf23 (B : Nat) (w : World) : (Instr.fieldAt 33 (.pointer (some ⟨B, 0, none⟩)) 23).run Tryz.prog w = .ok (.pointer (some ⟨B, 23, none⟩)) w := by
  have u := Tryz.underlying33
  go_simp
theorem pkf24 (B : Nat) (w : World) : (Instr.fieldAt 33 (.pointer (some ⟨B, 0, none⟩)) 24).run Tryz.prog w = .ok (.pointer (some ⟨B, 24, none⟩)) w := by
  have u := Tryz.underlying33
  go_simp
theorem pkl_i64 (B K : Nat) (i : Int) (w : World) (h : w.cell? ⟨B, K, none⟩ = some (.int .i64 i)) : (Instr.loadAt 3 (.pointer (some ⟨B, K, none⟩))).run Tryz.prog w = .ok (.int .i64 i) w := by
  have u := Tryz.underlying3
  go_simp
theorem pkl_u8 (B K : Nat) (i : Int) (w : World) (h : w.cell? ⟨B, K, none⟩ = some (.int .u8 i)) : (Instr.loadAt 5 (.pointer (some ⟨B, K, none⟩))).run Tryz.prog w = .ok (.int .u8 i) w := by
  have u := Tryz.underlying5
  go_simp
theorem pkl_u16 (B K : Nat) (i : Int) (w : World) (h : w.cell? ⟨B, K, none⟩ = some (.int .u16 i)) : (Instr.loadAt 22 (.pointer (some ⟨B, K, none⟩))).run Tryz.prog w = .ok (.int .u16 i) w := by
  have u := Tryz.underlying22
  go_simp
theorem pkl_bool (B K : Nat) (i : Bool) (w : World) (h : w.cell? ⟨B, K, none⟩ = some (.bool i)) : (Instr.loadAt 4 (.pointer (some ⟨B, K, none⟩))).run Tryz.prog w = .ok (.bool i) w := by
  have u := Tryz.underlying4
  go_simp
theorem pkl_str (B K : Nat) (i : ByteArray) (w : World) (h : w.cell? ⟨B, K, none⟩ = some (.string i)) : (Instr.loadAt 9 (.pointer (some ⟨B, K, none⟩))).run Tryz.prog w = .ok (.string i) w := by
  have u := Tryz.underlying9
  go_simp
theorem pkl_sl25 (B K : Nat) (i : Value) (w : World) (h : w.cell? ⟨B, K, none⟩ = some (i)) : (Instr.loadAt 25 (.pointer (some ⟨B, K, none⟩))).run Tryz.prog w = .ok (i) w := by
  have u := Tryz.underlying25
  go_simp
theorem pkl_sl27 (B K : Nat) (i : Value) (w : World) (h : w.cell? ⟨B, K, none⟩ = some (i)) : (Instr.loadAt 30 (.pointer (some ⟨B, K, none⟩))).run Tryz.prog w = .ok (i) w := by
  have u := Tryz.underlying30
  go_simp
theorem pkl_sl77 (B K : Nat) (i : Value) (w : World) (h : w.cell? ⟨B, K, none⟩ = some (i)) : (Instr.loadAt 31 (.pointer (some ⟨B, K, none⟩))).run Tryz.prog w = .ok (i) w := by
  have u := Tryz.underlying31
  go_simp
def willB (p q : Pk) : Bool := (((((decide (p.hasWill = q.hasWill) && decide (p.willQoS = q.willQoS)) && decide (p.willRetain = q.willRetain)) && decide (p.willTopic = q.willTopic)) && decide (p.willLoad = q.willLoad)) && decide (p.willProps = q.willProps))
set_option maxHeartbeats 4000000 in
theorem pkwill_any (p q : Pk) (s t : Sl) (w : World) (hp : p.At s w) (hq : q.At t w) (hpf : p.few) (hqf : q.few) :
    Calls Tryz.prog 39 #[p.val s, q.val t] w fun e w' => e = .returned (.bool (willB p q)) ∧ Kept No w w' := by
  go_enter Tryz.func39, Tryz.ntmps39
  refine wp_seq_k (fun K9 hK9 => ?_)
  have HK := Lib.hid hK9
  clear hK9
  unfold Pk.val
  go_wp2
  refine HK.out _ _ ?_
  clear HK K9
  have hkB : Kept No w ((w.alloc (.cells (p.cells s) 33)).alloc (.cells (q.cells t) 33)) := ((Kept.refl No w).alloc _).alloc _
  have hB1 := (Blk.new w 33 (p.cells s)).alloc (.cells (q.cells t) 33)
  have hB2 := Blk.new (w.alloc (.cells (p.cells s) 33)) 33 (q.cells t)
  simp only [World.size_alloc] at hB2
  generalize (w.alloc (.cells (p.cells s) 33)).alloc (.cells (q.cells t) 33) = wB at *
  have cB1 : ∀ wx, Kept No wB wx → ∀ {i}, wx.cell? ⟨w.heap.size, i, none⟩ = (p.cells s)[i]? := fun wx hk {i} => (hB1.kept hk (fun f => f)).cell i
  have cB2 : ∀ wx, Kept No wB wx → ∀ {i}, wx.cell? ⟨w.heap.size + 1, i, none⟩ = (q.cells t)[i]? := fun wx hk {i} => (hB2.kept hk (fun f => f)).cell i
  have ld8 : ∀ wx, Kept No wB wx → Loads2 Tryz.prog 33 4 4 8 w.heap.size (w.heap.size + 1) (.bool p.hasWill) (.bool q.hasWill) wx := fun wx hk => ⟨pkf8 _ _, pkf8 _ _, pkl_bool _ _ _ _ ((cB1 wx hk).trans rfl), pkl_bool _ _ _ _ ((cB2 wx hk).trans rfl)⟩
  have ld11 : ∀ wx, Kept No wB wx → Loads2 Tryz.prog 33 5 5 11 w.heap.size (w.heap.size + 1) (.int .u8 (p.willQoS : Nat)) (.int .u8 (q.willQoS : Nat)) wx := fun wx hk => ⟨pkf11 _ _, pkf11 _ _, pkl_u8 _ _ _ _ ((cB1 wx hk).trans rfl), pkl_u8 _ _ _ _ ((cB2 wx hk).trans rfl)⟩
  have ld12 : ∀ wx, Kept No wB wx → Loads2 Tryz.prog 33 4 4 12 w.heap.size (w.heap.size + 1) (.bool p.willRetain) (.bool q.willRetain) wx := fun wx hk => ⟨pkf12 _ _, pkf12 _ _, pkl_bool _ _ _ _ ((cB1 wx hk).trans rfl), pkl_bool _ _ _ _ ((cB2 wx hk).trans rfl)⟩
  have ld13 : ∀ wx, Kept No wB wx → Loads2 Tryz.prog 33 30 30 13 w.heap.size (w.heap.size + 1) (.slice s.wa p.willProps.length s.wc) (.slice t.wa q.willProps.length t.wc) wx := fun wx hk => ⟨pkf13 _ _, pkf13 _ _, pkl_sl27 _ _ _ _ ((cB1 wx hk).trans rfl), pkl_sl27 _ _ _ _ ((cB2 wx hk).trans rfl)⟩
  have ld14 : ∀ wx, Kept No wB wx → Loads2 Tryz.prog 33 9 9 14 w.heap.size (w.heap.size + 1) (.string p.willTopic) (.string q.willTopic) wx := fun wx hk => ⟨pkf14 _ _, pkf14 _ _, pkl_str _ _ _ _ ((cB1 wx hk).trans rfl), pkl_str _ _ _ _ ((cB2 wx hk).trans rfl)⟩
  have ld15 : ∀ wx, Kept No wB wx → Loads2 Tryz.prog 33 9 9 15 w.heap.size (w.heap.size + 1) (.string p.willLoad) (.string q.willLoad) wx := fun wx hk => ⟨pkf15 _ _, pkf15 _ _, pkl_str _ _ _ _ ((cB1 wx hk).trans rfl), pkl_str _ _ _ _ ((cB2 wx hk).trans rfl)⟩
  have wh1 : ∀ wx, Kept No wB wx → (Instr.loadAt 33 (.pointer (some ⟨w.heap.size, 0, none⟩))).run Tryz.prog wx = .ok (p.val s) wx := fun wx hk => pkl_whole _ _ _ _ (fun i => cB1 wx hk)
  have wh2 : ∀ wx, Kept No wB wx → (Instr.loadAt 33 (.pointer (some ⟨w.heap.size + 1, 0, none⟩))).run Tryz.prog wx = .ok (q.val t) wx := fun wx hk => pkl_whole _ _ _ _ (fun i => cB2 wx hk)
  refine wp_seq ?_
  refine wp_region_lit ?_
  refine chain_first (N := 45) (S := 33) (T := 4) (T' := 4) (K := 8) (n := 5) (d7 := 10) (V1 := .bool p.hasWill) (V2 := .bool q.hasWill) (e := decide (p.hasWill = q.hasWill)) ⟨rfl, rfl, rfl⟩ ⟨rfl, rfl, rfl⟩ ⟨rfl, rfl, rfl⟩ ⟨rfl, rfl, rfl⟩ ⟨rfl, rfl, rfl⟩ ⟨rfl, rfl, rfl⟩ rfl rfl rfl rfl (by omega) (by omega) (by omega) (ld8 _ (Kept.refl No wB)) (eql_bool Tryz.underlying4 p.hasWill q.hasWill _) (fun A1 F1 => ?_)
  refine chain_eql (N := 45) (S := 33) (T := 5) (T' := 5) (K := 11) (n := 11) (gs := 10) (gi := 5) (d7 := 17) (V1 := .int .u8 (p.willQoS : Nat)) (V2 := .int .u8 (q.willQoS : Nat)) (e := decide (p.willQoS = q.willQoS)) ⟨rfl, rfl, rfl⟩ ⟨rfl, rfl, rfl⟩ ⟨rfl, rfl, rfl⟩ ⟨rfl, rfl, rfl⟩ ⟨rfl, rfl, rfl⟩ ⟨rfl, rfl, rfl⟩ ⟨(.inl rfl), rfl, rfl⟩ rfl F1 (by omega) (by omega) (by omega) (by omega) (ld11 _ (Kept.refl No wB)) (eql_nat Tryz.underlying5 p.willQoS q.willQoS _) (fun A2 F2 => ?_)
  refine chain_eql (N := 45) (S := 33) (T := 4) (T' := 4) (K := 12) (n := 18) (gs := 17) (gi := 12) (d7 := 24) (V1 := .bool p.willRetain) (V2 := .bool q.willRetain) (e := decide (p.willRetain = q.willRetain)) ⟨rfl, rfl, rfl⟩ ⟨rfl, rfl, rfl⟩ ⟨rfl, rfl, rfl⟩ ⟨rfl, rfl, rfl⟩ ⟨rfl, rfl, rfl⟩ ⟨rfl, rfl, rfl⟩ ⟨(.inl rfl), rfl, rfl⟩ rfl F2 (by omega) (by omega) (by omega) (by omega) (ld12 _ (Kept.refl No wB)) (eql_bool Tryz.underlying4 p.willRetain q.willRetain _) (fun A3 F3 => ?_)
  refine chain_eql (N := 45) (S := 33) (T := 9) (T' := 9) (K := 14) (n := 25) (gs := 24) (gi := 19) (d7 := 31) (V1 := .string p.willTopic) (V2 := .string q.willTopic) (e := decide (p.willTopic = q.willTopic)) ⟨rfl, rfl, rfl⟩ ⟨rfl, rfl, rfl⟩ ⟨rfl, rfl, rfl⟩ ⟨rfl, rfl, rfl⟩ ⟨rfl, rfl, rfl⟩ ⟨rfl, rfl, rfl⟩ ⟨(.inl rfl), rfl, rfl⟩ rfl F3 (by omega) (by omega) (by omega) (by omega) (ld14 _ (Kept.refl No wB)) (eql_str Tryz.underlying9 p.willTopic q.willTopic _) (fun A4 F4 => ?_)
  refine chain_eql (N := 45) (S := 33) (T := 9) (T' := 9) (K := 15) (n := 32) (gs := 31) (gi := 26) (d7 := 38) (V1 := .string p.willLoad) (V2 := .string q.willLoad) (e := decide (p.willLoad = q.willLoad)) ⟨rfl, rfl, rfl⟩ ⟨rfl, rfl, rfl⟩ ⟨rfl, rfl, rfl⟩ ⟨rfl, rfl, rfl⟩ ⟨rfl, rfl, rfl⟩ ⟨rfl, rfl, rfl⟩ ⟨(.inl rfl), rfl, rfl⟩ rfl F4 (by omega) (by omega) (by omega) (by omega) (ld15 _ (Kept.refl No wB)) (eql_str Tryz.underlying9 p.willLoad q.willLoad _) (fun A5 F5 => ?_)
  refine chain_loads (N := 45) (S := 33) (T := 30) (T' := 30) (K := 13) (n := 39) (gs := 38) (gi := 33) (V1 := .slice s.wa p.willProps.length s.wc) (V2 := .slice t.wa q.willProps.length t.wc) ⟨rfl, rfl, rfl⟩ ⟨rfl, rfl, rfl⟩ ⟨rfl, rfl, rfl⟩ ⟨rfl, rfl, rfl⟩ rfl F5 (by omega) (by omega) (by omega) (ld13 _ (Kept.refl No wB)) (fun B6 G6 m6a m6b => ?_)
  refine chain_call (N := 45) (n := 43) (gs := 38) (gi := 33) (d7 := 4) (e := decide (p.willProps = q.willProps)) ⟨rfl, rfl, rfl⟩ ⟨rfl, rfl, rfl⟩ ⟨(.inr rfl), rfl, rfl⟩ rfl G6 m6a m6b (by omega) (by omega) (by omega) (by omega) (enters_of Tryz.func42 (by kernel_rfl) rfl) (fun _ => psame_any _ _ _ _ _ _ _ (hp.kept (hkB.trans (Kept.refl No wB))).hw (hq.kept (hkB.trans (Kept.refl No wB))).hw hpf.hw hqf.hw) (fun A6 w1 k1 F6 => ?_)
  refine wpList_nil ?_
  refine wp_ret_any ?_
  refine bodyPost_ret (v := .bool (willB p q)) ?_ F6.d ⟨rfl, hkB.trans ((Kept.refl No wB).trans k1)⟩
  rw [results_tmp rfl]
  simp [F6.g, willB]
def sameB (p q : Pk) : Bool := (((((((((((((((((((decide (p.kind = q.kind) && decide (p.id = q.id)) && decide (p.present = q.present)) && decide (p.code = q.code)) && decide (p.dup = q.dup)) && decide (p.qos = q.qos)) && decide (p.retain = q.retain)) && decide (p.topic = q.topic)) && decide (p.load = q.load)) && decide (p.clean = q.clean)) && decide (p.keep = q.keep)) && decide (p.client = q.client)) && willB p q) && decide (p.hasUser = q.hasUser)) && decide (p.user = q.user)) && decide (p.hasPass = q.hasPass)) && decide (p.pass = q.pass)) && decide (p.filters = q.filters)) && decide (p.codes = q.codes)) && decide (p.props = q.props))
set_option maxHeartbeats 4000000 in
theorem pksame_any (p q : Pk) (s t : Sl) (w : World) (hp : p.At s w) (hq : q.At t w) (hpf : p.few) (hqf : q.few) :
    Calls Tryz.prog 16 #[p.val s, q.val t] w fun e w' => e = .returned (.bool (sameB p q)) ∧ Kept No w w' := by
  go_enter Tryz.func16, Tryz.ntmps16
  refine wp_seq_k (fun K9 hK9 => ?_)
  have HK := Lib.hid hK9
  clear hK9
  unfold Pk.val
  go_wp2
  refine HK.out _ _ ?_
  clear HK K9
  have hkB : Kept No w ((w.alloc (.cells (p.cells s) 33)).alloc (.cells (q.cells t) 33)) := ((Kept.refl No w).alloc _).alloc _
  have hB1 := (Blk.new w 33 (p.cells s)).alloc (.cells (q.cells t) 33)
  have hB2 := Blk.new (w.alloc (.cells (p.cells s) 33)) 33 (q.cells t)
  simp only [World.size_alloc] at hB2
  generalize (w.alloc (.cells (p.cells s) 33)).alloc (.cells (q.cells t) 33) = wB at *
  have cB1 : ∀ wx, Kept No wB wx → ∀ {i}, wx.cell? ⟨w.heap.size, i, none⟩ = (p.cells s)[i]? := fun wx hk {i} => (hB1.kept hk (fun f => f)).cell i
  have cB2 : ∀ wx, Kept No wB wx → ∀ {i}, wx.cell? ⟨w.heap.size + 1, i, none⟩ = (q.cells t)[i]? := fun wx hk {i} => (hB2.kept hk (fun f => f)).cell i
  have ld0 : ∀ wx, Kept No wB wx → Loads2 Tryz.prog 33 3 3 0 w.heap.size (w.heap.size + 1) (.int .i64 p.kind) (.int .i64 q.kind) wx := fun wx hk => ⟨pkf0 _ _, pkf0 _ _, pkl_i64 _ _ _ _ ((cB1 wx hk).trans rfl), pkl_i64 _ _ _ _ ((cB2 wx hk).trans rfl)⟩
  have ld1 : ∀ wx, Kept No wB wx → Loads2 Tryz.prog 33 4 4 1 w.heap.size (w.heap.size + 1) (.bool p.dup) (.bool q.dup) wx := fun wx hk => ⟨pkf1 _ _, pkf1 _ _, pkl_bool _ _ _ _ ((cB1 wx hk).trans rfl), pkl_bool _ _ _ _ ((cB2 wx hk).trans rfl)⟩
  have ld2 : ∀ wx, Kept No wB wx → Loads2 Tryz.prog 33 4 4 2 w.heap.size (w.heap.size + 1) (.bool p.retain) (.bool q.retain) wx := fun wx hk => ⟨pkf2 _ _, pkf2 _ _, pkl_bool _ _ _ _ ((cB1 wx hk).trans rfl), pkl_bool _ _ _ _ ((cB2 wx hk).trans rfl)⟩
  have ld3 : ∀ wx, Kept No wB wx → Loads2 Tryz.prog 33 5 5 3 w.heap.size (w.heap.size + 1) (.int .u8 (p.qos : Nat)) (.int .u8 (q.qos : Nat)) wx := fun wx hk => ⟨pkf3 _ _, pkf3 _ _, pkl_u8 _ _ _ _ ((cB1 wx hk).trans rfl), pkl_u8 _ _ _ _ ((cB2 wx hk).trans rfl)⟩
  have ld4 : ∀ wx, Kept No wB wx → Loads2 Tryz.prog 33 22 22 4 w.heap.size (w.heap.size + 1) (.int .u16 (p.id : Nat)) (.int .u16 (q.id : Nat)) wx := fun wx hk => ⟨pkf4 _ _, pkf4 _ _, pkl_u16 _ _ _ _ ((cB1 wx hk).trans rfl), pkl_u16 _ _ _ _ ((cB2 wx hk).trans rfl)⟩
  have ld5 : ∀ wx, Kept No wB wx → Loads2 Tryz.prog 33 4 4 5 w.heap.size (w.heap.size + 1) (.bool p.clean) (.bool q.clean) wx := fun wx hk => ⟨pkf5 _ _, pkf5 _ _, pkl_bool _ _ _ _ ((cB1 wx hk).trans rfl), pkl_bool _ _ _ _ ((cB2 wx hk).trans rfl)⟩
  have ld6 : ∀ wx, Kept No wB wx → Loads2 Tryz.prog 33 22 22 6 w.heap.size (w.heap.size + 1) (.int .u16 (p.keep : Nat)) (.int .u16 (q.keep : Nat)) wx := fun wx hk => ⟨pkf6 _ _, pkf6 _ _, pkl_u16 _ _ _ _ ((cB1 wx hk).trans rfl), pkl_u16 _ _ _ _ ((cB2 wx hk).trans rfl)⟩
  have ld7 : ∀ wx, Kept No wB wx → Loads2 Tryz.prog 33 9 9 7 w.heap.size (w.heap.size + 1) (.string p.client) (.string q.client) wx := fun wx hk => ⟨pkf7 _ _, pkf7 _ _, pkl_str _ _ _ _ ((cB1 wx hk).trans rfl), pkl_str _ _ _ _ ((cB2 wx hk).trans rfl)⟩
  have ld9 : ∀ wx, Kept No wB wx → Loads2 Tryz.prog 33 4 4 9 w.heap.size (w.heap.size + 1) (.bool p.hasUser) (.bool q.hasUser) wx := fun wx hk => ⟨pkf9 _ _, pkf9 _ _, pkl_bool _ _ _ _ ((cB1 wx hk).trans rfl), pkl_bool _ _ _ _ ((cB2 wx hk).trans rfl)⟩
  have ld10 : ∀ wx, Kept No wB wx → Loads2 Tryz.prog 33 4 4 10 w.heap.size (w.heap.size + 1) (.bool p.hasPass) (.bool q.hasPass) wx := fun wx hk => ⟨pkf10 _ _, pkf10 _ _, pkl_bool _ _ _ _ ((cB1 wx hk).trans rfl), pkl_bool _ _ _ _ ((cB2 wx hk).trans rfl)⟩
  have ld16 : ∀ wx, Kept No wB wx → Loads2 Tryz.prog 33 9 9 16 w.heap.size (w.heap.size + 1) (.string p.user) (.string q.user) wx := fun wx hk => ⟨pkf16 _ _, pkf16 _ _, pkl_str _ _ _ _ ((cB1 wx hk).trans rfl), pkl_str _ _ _ _ ((cB2 wx hk).trans rfl)⟩
  have ld17 : ∀ wx, Kept No wB wx → Loads2 Tryz.prog 33 9 9 17 w.heap.size (w.heap.size + 1) (.string p.pass) (.string q.pass) wx := fun wx hk => ⟨pkf17 _ _, pkf17 _ _, pkl_str _ _ _ _ ((cB1 wx hk).trans rfl), pkl_str _ _ _ _ ((cB2 wx hk).trans rfl)⟩
  have ld18 : ∀ wx, Kept No wB wx → Loads2 Tryz.prog 33 4 4 18 w.heap.size (w.heap.size + 1) (.bool p.present) (.bool q.present) wx := fun wx hk => ⟨pkf18 _ _, pkf18 _ _, pkl_bool _ _ _ _ ((cB1 wx hk).trans rfl), pkl_bool _ _ _ _ ((cB2 wx hk).trans rfl)⟩
  have ld19 : ∀ wx, Kept No wB wx → Loads2 Tryz.prog 33 5 5 19 w.heap.size (w.heap.size + 1) (.int .u8 (p.code : Nat)) (.int .u8 (q.code : Nat)) wx := fun wx hk => ⟨pkf19 _ _, pkf19 _ _, pkl_u8 _ _ _ _ ((cB1 wx hk).trans rfl), pkl_u8 _ _ _ _ ((cB2 wx hk).trans rfl)⟩
  have ld20 : ∀ wx, Kept No wB wx → Loads2 Tryz.prog 33 9 9 20 w.heap.size (w.heap.size + 1) (.string p.topic) (.string q.topic) wx := fun wx hk => ⟨pkf20 _ _, pkf20 _ _, pkl_str _ _ _ _ ((cB1 wx hk).trans rfl), pkl_str _ _ _ _ ((cB2 wx hk).trans rfl)⟩
  have ld21 : ∀ wx, Kept No wB wx → Loads2 Tryz.prog 33 9 9 21 w.heap.size (w.heap.size + 1) (.string p.load) (.string q.load) wx := fun wx hk => ⟨pkf21 _ _, pkf21 _ _, pkl_str _ _ _ _ ((cB1 wx hk).trans rfl), pkl_str _ _ _ _ ((cB2 wx hk).trans rfl)⟩
  have ld22 : ∀ wx, Kept No wB wx → Loads2 Tryz.prog 33 31 31 22 w.heap.size (w.heap.size + 1) (.slice s.fa p.filters.length s.fc) (.slice t.fa q.filters.length t.fc) wx := fun wx hk => ⟨pkf22 _ _, pkf22 _ _, pkl_sl77 _ _ _ _ ((cB1 wx hk).trans rfl), pkl_sl77 _ _ _ _ ((cB2 wx hk).trans rfl)⟩
  have ld23 : ∀ wx, Kept No wB wx → Loads2 Tryz.prog 33 25 25 23 w.heap.size (w.heap.size + 1) (.slice s.ca p.codes.length s.cc) (.slice t.ca q.codes.length t.cc) wx := fun wx hk => ⟨pkf23 _ _, pkf23 _ _, pkl_sl25 _ _ _ _ ((cB1 wx hk).trans rfl), pkl_sl25 _ _ _ _ ((cB2 wx hk).trans rfl)⟩
  have ld24 : ∀ wx, Kept No wB wx → Loads2 Tryz.prog 33 30 30 24 w.heap.size (w.heap.size + 1) (.slice s.pa p.props.length s.pc) (.slice t.pa q.props.length t.pc) wx := fun wx hk => ⟨pkf24 _ _, pkf24 _ _, pkl_sl27 _ _ _ _ ((cB1 wx hk).trans rfl), pkl_sl27 _ _ _ _ ((cB2 wx hk).trans rfl)⟩
  have wh1 : ∀ wx, Kept No wB wx → (Instr.loadAt 33 (.pointer (some ⟨w.heap.size, 0, none⟩))).run Tryz.prog wx = .ok (p.val s) wx := fun wx hk => pkl_whole _ _ _ _ (fun i => cB1 wx hk)
  have wh2 : ∀ wx, Kept No wB wx → (Instr.loadAt 33 (.pointer (some ⟨w.heap.size + 1, 0, none⟩))).run Tryz.prog wx = .ok (q.val t) wx := fun wx hk => pkl_whole _ _ _ _ (fun i => cB2 wx hk)
  refine wp_seq ?_
  refine wp_region_lit ?_
  refine chain_first (N := 141) (S := 33) (T := 3) (T' := 3) (K := 0) (n := 5) (d7 := 10) (V1 := .int .i64 p.kind) (V2 := .int .i64 q.kind) (e := decide (p.kind = q.kind)) ⟨rfl, rfl, rfl⟩ ⟨rfl, rfl, rfl⟩ ⟨rfl, rfl, rfl⟩ ⟨rfl, rfl, rfl⟩ ⟨rfl, rfl, rfl⟩ ⟨rfl, rfl, rfl⟩ rfl rfl rfl rfl (by omega) (by omega) (by omega) (ld0 _ (Kept.refl No wB)) (eql_int Tryz.underlying3 p.kind q.kind _) (fun A1 F1 => ?_)
  refine chain_eql (N := 141) (S := 33) (T := 22) (T' := 22) (K := 4) (n := 11) (gs := 10) (gi := 5) (d7 := 17) (V1 := .int .u16 (p.id : Nat)) (V2 := .int .u16 (q.id : Nat)) (e := decide (p.id = q.id)) ⟨rfl, rfl, rfl⟩ ⟨rfl, rfl, rfl⟩ ⟨rfl, rfl, rfl⟩ ⟨rfl, rfl, rfl⟩ ⟨rfl, rfl, rfl⟩ ⟨rfl, rfl, rfl⟩ ⟨(.inl rfl), rfl, rfl⟩ rfl F1 (by omega) (by omega) (by omega) (by omega) (ld4 _ (Kept.refl No wB)) (eql_nat Tryz.underlying22 p.id q.id _) (fun A2 F2 => ?_)
  refine chain_eql (N := 141) (S := 33) (T := 4) (T' := 4) (K := 18) (n := 18) (gs := 17) (gi := 12) (d7 := 24) (V1 := .bool p.present) (V2 := .bool q.present) (e := decide (p.present = q.present)) ⟨rfl, rfl, rfl⟩ ⟨rfl, rfl, rfl⟩ ⟨rfl, rfl, rfl⟩ ⟨rfl, rfl, rfl⟩ ⟨rfl, rfl, rfl⟩ ⟨rfl, rfl, rfl⟩ ⟨(.inl rfl), rfl, rfl⟩ rfl F2 (by omega) (by omega) (by omega) (by omega) (ld18 _ (Kept.refl No wB)) (eql_bool Tryz.underlying4 p.present q.present _) (fun A3 F3 => ?_)
  refine chain_eql (N := 141) (S := 33) (T := 5) (T' := 5) (K := 19) (n := 25) (gs := 24) (gi := 19) (d7 := 31) (V1 := .int .u8 (p.code : Nat)) (V2 := .int .u8 (q.code : Nat)) (e := decide (p.code = q.code)) ⟨rfl, rfl, rfl⟩ ⟨rfl, rfl, rfl⟩ ⟨rfl, rfl, rfl⟩ ⟨rfl, rfl, rfl⟩ ⟨rfl, rfl, rfl⟩ ⟨rfl, rfl, rfl⟩ ⟨(.inl rfl), rfl, rfl⟩ rfl F3 (by omega) (by omega) (by omega) (by omega) (ld19 _ (Kept.refl No wB)) (eql_nat Tryz.underlying5 p.code q.code _) (fun A4 F4 => ?_)
  refine chain_eql (N := 141) (S := 33) (T := 4) (T' := 4) (K := 1) (n := 32) (gs := 31) (gi := 26) (d7 := 38) (V1 := .bool p.dup) (V2 := .bool q.dup) (e := decide (p.dup = q.dup)) ⟨rfl, rfl, rfl⟩ ⟨rfl, rfl, rfl⟩ ⟨rfl, rfl, rfl⟩ ⟨rfl, rfl, rfl⟩ ⟨rfl, rfl, rfl⟩ ⟨rfl, rfl, rfl⟩ ⟨(.inl rfl), rfl, rfl⟩ rfl F4 (by omega) (by omega) (by omega) (by omega) (ld1 _ (Kept.refl No wB)) (eql_bool Tryz.underlying4 p.dup q.dup _) (fun A5 F5 => ?_)
  refine chain_eql (N := 141) (S := 33) (T := 5) (T' := 5) (K := 3) (n := 39) (gs := 38) (gi := 33) (d7 := 45) (V1 := .int .u8 (p.qos : Nat)) (V2 := .int .u8 (q.qos : Nat)) (e := decide (p.qos = q.qos)) ⟨rfl, rfl, rfl⟩ ⟨rfl, rfl, rfl⟩ ⟨rfl, rfl, rfl⟩ ⟨rfl, rfl, rfl⟩ ⟨rfl, rfl, rfl⟩ ⟨rfl, rfl, rfl⟩ ⟨(.inl rfl), rfl, rfl⟩ rfl F5 (by omega) (by omega) (by omega) (by omega) (ld3 _ (Kept.refl No wB)) (eql_nat Tryz.underlying5 p.qos q.qos _) (fun A6 F6 => ?_)
  refine chain_eql (N := 141) (S := 33) (T := 4) (T' := 4) (K := 2) (n := 46) (gs := 45) (gi := 40) (d7 := 52) (V1 := .bool p.retain) (V2 := .bool q.retain) (e := decide (p.retain = q.retain)) ⟨rfl, rfl, rfl⟩ ⟨rfl, rfl, rfl⟩ ⟨rfl, rfl, rfl⟩ ⟨rfl, rfl, rfl⟩ ⟨rfl, rfl, rfl⟩ ⟨rfl, rfl, rfl⟩ ⟨(.inl rfl), rfl, rfl⟩ rfl F6 (by omega) (by omega) (by omega) (by omega) (ld2 _ (Kept.refl No wB)) (eql_bool Tryz.underlying4 p.retain q.retain _) (fun A7 F7 => ?_)
  refine chain_eql (N := 141) (S := 33) (T := 9) (T' := 9) (K := 20) (n := 53) (gs := 52) (gi := 47) (d7 := 59) (V1 := .string p.topic) (V2 := .string q.topic) (e := decide (p.topic = q.topic)) ⟨rfl, rfl, rfl⟩ ⟨rfl, rfl, rfl⟩ ⟨rfl, rfl, rfl⟩ ⟨rfl, rfl, rfl⟩ ⟨rfl, rfl, rfl⟩ ⟨rfl, rfl, rfl⟩ ⟨(.inl rfl), rfl, rfl⟩ rfl F7 (by omega) (by omega) (by omega) (by omega) (ld20 _ (Kept.refl No wB)) (eql_str Tryz.underlying9 p.topic q.topic _) (fun A8 F8 => ?_)
  refine chain_eql (N := 141) (S := 33) (T := 9) (T' := 9) (K := 21) (n := 60) (gs := 59) (gi := 54) (d7 := 66) (V1 := .string p.load) (V2 := .string q.load) (e := decide (p.load = q.load)) ⟨rfl, rfl, rfl⟩ ⟨rfl, rfl, rfl⟩ ⟨rfl, rfl, rfl⟩ ⟨rfl, rfl, rfl⟩ ⟨rfl, rfl, rfl⟩ ⟨rfl, rfl, rfl⟩ ⟨(.inl rfl), rfl, rfl⟩ rfl F8 (by omega) (by omega) (by omega) (by omega) (ld21 _ (Kept.refl No wB)) (eql_str Tryz.underlying9 p.load q.load _) (fun A9 F9 => ?_)
  refine chain_eql (N := 141) (S := 33) (T := 4) (T' := 4) (K := 5) (n := 67) (gs := 66) (gi := 61) (d7 := 73) (V1 := .bool p.clean) (V2 := .bool q.clean) (e := decide (p.clean = q.clean)) ⟨rfl, rfl, rfl⟩ ⟨rfl, rfl, rfl⟩ ⟨rfl, rfl, rfl⟩ ⟨rfl, rfl, rfl⟩ ⟨rfl, rfl, rfl⟩ ⟨rfl, rfl, rfl⟩ ⟨(.inl rfl), rfl, rfl⟩ rfl F9 (by omega) (by omega) (by omega) (by omega) (ld5 _ (Kept.refl No wB)) (eql_bool Tryz.underlying4 p.clean q.clean _) (fun A10 F10 => ?_)
  refine chain_eql (N := 141) (S := 33) (T := 22) (T' := 22) (K := 6) (n := 74) (gs := 73) (gi := 68) (d7 := 80) (V1 := .int .u16 (p.keep : Nat)) (V2 := .int .u16 (q.keep : Nat)) (e := decide (p.keep = q.keep)) ⟨rfl, rfl, rfl⟩ ⟨rfl, rfl, rfl⟩ ⟨rfl, rfl, rfl⟩ ⟨rfl, rfl, rfl⟩ ⟨rfl, rfl, rfl⟩ ⟨rfl, rfl, rfl⟩ ⟨(.inl rfl), rfl, rfl⟩ rfl F10 (by omega) (by omega) (by omega) (by omega) (ld6 _ (Kept.refl No wB)) (eql_nat Tryz.underlying22 p.keep q.keep _) (fun A11 F11 => ?_)
  refine chain_eql (N := 141) (S := 33) (T := 9) (T' := 9) (K := 7) (n := 81) (gs := 80) (gi := 75) (d7 := 87) (V1 := .string p.client) (V2 := .string q.client) (e := decide (p.client = q.client)) ⟨rfl, rfl, rfl⟩ ⟨rfl, rfl, rfl⟩ ⟨rfl, rfl, rfl⟩ ⟨rfl, rfl, rfl⟩ ⟨rfl, rfl, rfl⟩ ⟨rfl, rfl, rfl⟩ ⟨(.inl rfl), rfl, rfl⟩ rfl F11 (by omega) (by omega) (by omega) (by omega) (ld7 _ (Kept.refl No wB)) (eql_str Tryz.underlying9 p.client q.client _) (fun A12 F12 => ?_)
  refine chain_whole (N := 141) (S := 33) (n := 88) (gs := 87) (gi := 82) (V1 := p.val s) (V2 := q.val t) ⟨rfl, rfl, rfl⟩ ⟨rfl, rfl, rfl⟩ rfl F12 (by omega) (by omega) (by omega) (wh1 _ (Kept.refl No wB)) (wh2 _ (Kept.refl No wB)) (fun B13 G13 m13a m13b => ?_)
  refine chain_call (N := 141) (n := 90) (gs := 87) (gi := 82) (d7 := 92) (e := willB p q) ⟨rfl, rfl, rfl⟩ ⟨rfl, rfl, rfl⟩ ⟨(.inl rfl), rfl, rfl⟩ rfl G13 m13a m13b (by omega) (by omega) (by omega) (by omega) (enters_of Tryz.func39 (by kernel_rfl) rfl) (fun _ => pkwill_any p q s t _ (hp.kept (hkB.trans (Kept.refl No wB))) (hq.kept (hkB.trans (Kept.refl No wB))) hpf hqf) (fun A13 w1 k1 F13 => ?_)
  refine chain_eql (N := 141) (S := 33) (T := 4) (T' := 4) (K := 9) (n := 93) (gs := 92) (gi := 87) (d7 := 99) (V1 := .bool p.hasUser) (V2 := .bool q.hasUser) (e := decide (p.hasUser = q.hasUser)) ⟨rfl, rfl, rfl⟩ ⟨rfl, rfl, rfl⟩ ⟨rfl, rfl, rfl⟩ ⟨rfl, rfl, rfl⟩ ⟨rfl, rfl, rfl⟩ ⟨rfl, rfl, rfl⟩ ⟨(.inl rfl), rfl, rfl⟩ rfl F13 (by omega) (by omega) (by omega) (by omega) (ld9 _ ((Kept.refl No wB).trans k1)) (eql_bool Tryz.underlying4 p.hasUser q.hasUser _) (fun A14 F14 => ?_)
  refine chain_eql (N := 141) (S := 33) (T := 9) (T' := 9) (K := 16) (n := 100) (gs := 99) (gi := 94) (d7 := 106) (V1 := .string p.user) (V2 := .string q.user) (e := decide (p.user = q.user)) ⟨rfl, rfl, rfl⟩ ⟨rfl, rfl, rfl⟩ ⟨rfl, rfl, rfl⟩ ⟨rfl, rfl, rfl⟩ ⟨rfl, rfl, rfl⟩ ⟨rfl, rfl, rfl⟩ ⟨(.inl rfl), rfl, rfl⟩ rfl F14 (by omega) (by omega) (by omega) (by omega) (ld16 _ ((Kept.refl No wB).trans k1)) (eql_str Tryz.underlying9 p.user q.user _) (fun A15 F15 => ?_)
  refine chain_eql (N := 141) (S := 33) (T := 4) (T' := 4) (K := 10) (n := 107) (gs := 106) (gi := 101) (d7 := 113) (V1 := .bool p.hasPass) (V2 := .bool q.hasPass) (e := decide (p.hasPass = q.hasPass)) ⟨rfl, rfl, rfl⟩ ⟨rfl, rfl, rfl⟩ ⟨rfl, rfl, rfl⟩ ⟨rfl, rfl, rfl⟩ ⟨rfl, rfl, rfl⟩ ⟨rfl, rfl, rfl⟩ ⟨(.inl rfl), rfl, rfl⟩ rfl F15 (by omega) (by omega) (by omega) (by omega) (ld10 _ ((Kept.refl No wB).trans k1)) (eql_bool Tryz.underlying4 p.hasPass q.hasPass _) (fun A16 F16 => ?_)
  refine chain_eql (N := 141) (S := 33) (T := 9) (T' := 9) (K := 17) (n := 114) (gs := 113) (gi := 108) (d7 := 120) (V1 := .string p.pass) (V2 := .string q.pass) (e := decide (p.pass = q.pass)) ⟨rfl, rfl, rfl⟩ ⟨rfl, rfl, rfl⟩ ⟨rfl, rfl, rfl⟩ ⟨rfl, rfl, rfl⟩ ⟨rfl, rfl, rfl⟩ ⟨rfl, rfl, rfl⟩ ⟨(.inl rfl), rfl, rfl⟩ rfl F16 (by omega) (by omega) (by omega) (by omega) (ld17 _ ((Kept.refl No wB).trans k1)) (eql_str Tryz.underlying9 p.pass q.pass _) (fun A17 F17 => ?_)
  refine chain_loads (N := 141) (S := 33) (T := 31) (T' := 31) (K := 22) (n := 121) (gs := 120) (gi := 115) (V1 := .slice s.fa p.filters.length s.fc) (V2 := .slice t.fa q.filters.length t.fc) ⟨rfl, rfl, rfl⟩ ⟨rfl, rfl, rfl⟩ ⟨rfl, rfl, rfl⟩ ⟨rfl, rfl, rfl⟩ rfl F17 (by omega) (by omega) (by omega) (ld22 _ ((Kept.refl No wB).trans k1)) (fun B18 G18 m18a m18b => ?_)
  refine chain_call (N := 141) (n := 125) (gs := 120) (gi := 115) (d7 := 127) (e := decide (p.filters = q.filters)) ⟨rfl, rfl, rfl⟩ ⟨rfl, rfl, rfl⟩ ⟨(.inl rfl), rfl, rfl⟩ rfl G18 m18a m18b (by omega) (by omega) (by omega) (by omega) (enters_of Tryz.func40 (by kernel_rfl) rfl) (fun _ => fequal_any _ _ _ _ _ _ _ (hp.kept (hkB.trans ((Kept.refl No wB).trans k1))).hf (hq.kept (hkB.trans ((Kept.refl No wB).trans k1))).hf hpf.hf hqf.hf) (fun A18 w2 k2 F18 => ?_)
  refine chain_loads (N := 141) (S := 33) (T := 25) (T' := 25) (K := 23) (n := 128) (gs := 127) (gi := 122) (V1 := .slice s.ca p.codes.length s.cc) (V2 := .slice t.ca q.codes.length t.cc) ⟨rfl, rfl, rfl⟩ ⟨rfl, rfl, rfl⟩ ⟨rfl, rfl, rfl⟩ ⟨rfl, rfl, rfl⟩ rfl F18 (by omega) (by omega) (by omega) (ld23 _ (((Kept.refl No wB).trans k1).trans k2)) (fun B19 G19 m19a m19b => ?_)
  refine chain_call (N := 141) (n := 132) (gs := 127) (gi := 122) (d7 := 134) (e := decide (p.codes = q.codes)) ⟨rfl, rfl, rfl⟩ ⟨rfl, rfl, rfl⟩ ⟨(.inl rfl), rfl, rfl⟩ rfl G19 m19a m19b (by omega) (by omega) (by omega) (by omega) (enters_of Tryz.func41 (by kernel_rfl) rfl) (fun _ => cequal_any _ _ _ _ _ _ _ (hp.kept (hkB.trans (((Kept.refl No wB).trans k1).trans k2))).hc (hq.kept (hkB.trans (((Kept.refl No wB).trans k1).trans k2))).hc hpf.hc hqf.hc) (fun A19 w3 k3 F19 => ?_)
  refine chain_loads (N := 141) (S := 33) (T := 30) (T' := 30) (K := 24) (n := 135) (gs := 134) (gi := 129) (V1 := .slice s.pa p.props.length s.pc) (V2 := .slice t.pa q.props.length t.pc) ⟨rfl, rfl, rfl⟩ ⟨rfl, rfl, rfl⟩ ⟨rfl, rfl, rfl⟩ ⟨rfl, rfl, rfl⟩ rfl F19 (by omega) (by omega) (by omega) (ld24 _ ((((Kept.refl No wB).trans k1).trans k2).trans k3)) (fun B20 G20 m20a m20b => ?_)
  refine chain_call (N := 141) (n := 139) (gs := 134) (gi := 129) (d7 := 4) (e := decide (p.props = q.props)) ⟨rfl, rfl, rfl⟩ ⟨rfl, rfl, rfl⟩ ⟨(.inr rfl), rfl, rfl⟩ rfl G20 m20a m20b (by omega) (by omega) (by omega) (by omega) (enters_of Tryz.func42 (by kernel_rfl) rfl) (fun _ => psame_any _ _ _ _ _ _ _ (hp.kept (hkB.trans ((((Kept.refl No wB).trans k1).trans k2).trans k3))).hp (hq.kept (hkB.trans ((((Kept.refl No wB).trans k1).trans k2).trans k3))).hp hpf.hp hqf.hp) (fun A20 w4 k4 F20 => ?_)
  refine wpList_nil ?_
  refine wp_ret_any ?_
  refine bodyPost_ret (v := .bool (sameB p q)) ?_ F20.d ⟨rfl, hkB.trans (((((Kept.refl No wB).trans k1).trans k2).trans k3).trans k4)⟩
  rw [results_tmp rfl]
  simp [F20.g, sameB]
theorem sameB_eq (p q : Pk) : sameB p q = decide (p = q) := by
  rw [Bool.eq_iff_iff]
  simp only [sameB, willB, Bool.and_eq_true, decide_eq_true_eq]
  constructor
  · intro h
    obtain ⟨k1, d1, r1, o1, i1, c1, e1, l1, h1, u1, a1, g1, m1, P1, t1, b1, s1, v1, n1, z1, j1, x1, F1, C1, Q1⟩ := p
    obtain ⟨k2, d2, r2, o2, i2, c2, e2, l2, h2, u2, a2, g2, m2, P2, t2, b2, s2, v2, n2, z2, j2, x2, F2, C2, Q2⟩ := q
    dsimp only at h
    simp only [Pk.mk.injEq]
    simp only [h, and_self]
  · intro h
    subst h
    simp only [and_self]

end Go.Proofs.YtjihgcdhheoniaaGreatDoor

/-
  Whole values stored and held; an append in a region that draws its order.
-/
namespace Go.Proofs.YtjihgcdhheoniaaGreatDoor
open Go.RowKit
set_option linter.unusedVariables false
set_option linter.unusedSimpArgs false
set_option maxRecDepth 100000

theorem store_agg {P : Program} {S g : Nat} {t : TypeId} {old c : Array Value} (w : World) (hg : Blk w g t old) (hi : (P.info? S).map (·.size) = some c.size) (hs : old.size = c.size) (h1 : c.all (·.oneCell') = true) :
    ∃ w', (Instr.storeAt S (.pointer (some ⟨g, 0, none⟩)) (.agg c)).run P w = .ok () w' ∧ Blk w' g t c ∧ Kept (One g) w w' := by
  have h := run_storeVar_row (P := P) w g t S old c hg hi hs h1
  refine ⟨w.setRow g c, ?_, ?_, ?_⟩
  · have e5 : (Instr.storeAt S (.pointer (some ⟨g, 0, none⟩)) (.agg c)).run P w = (storeVar S ⟨g, 0, none⟩ (.agg c)).run P w := by rfl
    rw [e5, h]
  · unfold Blk at hg ⊢
    show (w.heap.modify g _)[g]? = _
    rw [Array.getElem?_modify, if_pos rfl, hg]
    rfl
  · refine ⟨rfl, rfl, rfl, by simp [World.setRow], fun k hk hn => ?_⟩
    have : g ≠ k := fun e => hn e.symm
    simp [World.setRow, Array.getElem?_modify, this]
/-- An append, where a region draws its order. -/
theorem op_appendN {P : Program} {o : Oper} {a : Act} {w w' : World} {K : Act → World → Prop} {Q : Exit → Act → World → Prop} (s x : Operand) (t : TypeId) {v u v' : Value} (hop : o.op = Op.call { callee := Callee.builtin Builtin.append, args := #[s, x], argTypes := #[t, t] })
    (hs : a.eval s = v) (hx : a.eval x = u) (hrun : (Builtin.append_ #[t, t] o.type #[v, u]).run P w = .ok v' w') (hK : K (a.put o.dst v') w') : o.wp P a w K Q := by
  unfold Oper.wp
  simp [execOp, hop, resolve, invoke, builtin, hs, hx, hrun, Result.andThen]
  exact hK
theorem op_storeN {P : Program} {o : Oper} {a : Act} {w w' : World} {K : Act → World → Prop} {Q : Exit → Act → World → Prop} (S : TypeId) (s x : Operand) {v u : Value} (hop : o.op = Op.store S s x)
    (hs : a.eval s = v) (hx : a.eval x = u) (hrun : (Instr.storeAt S v u).run P w = .ok () w') (hK : K (a.put o.dst undef) w') : o.wp P a w K Q := by
  unfold Oper.wp
  simp only [execOp, hop, hs, hx]
  simp [hrun, Result.andThen]
  exact hK
theorem pk_one (p : Pk) (s : Sl) : (p.cells s).all (·.oneCell') = true := by
  simp [Pk.cells, Value.oneCell']
end Go.Proofs.YtjihgcdhheoniaaGreatDoor

/-
  The document's Same of packets: made by mkpkr.py.
-/
namespace Go.Proofs.YtjihgcdhheoniaaGreatDoor
open Go.RowKit
set_option linter.unusedVariables false
set_option linter.unusedSimpArgs false
set_option maxRecDepth 100000

theorem neq_int {T : TypeId} {k : IntKind} (u : Tryz.prog.underlying T = some (.int k)) (i j : Int) (w : World) : ∀ x y, (do eqGuard .neq T x y (.int k i) (.int k j); binOp .neq T (.int k i) (.int k j) : Sem Value).run Tryz.prog w = .ok (.bool (!decide (i = j))) w := by
  intro x y
  have e : (i != j) = !decide (i = j) := by rw [Bool.eq_iff_iff]; simp
  have e2 : (i == j) = decide (i = j) := by rw [Bool.eq_iff_iff]; simp
  go_simp
theorem neq_nat {T : TypeId} {k : IntKind} (u : Tryz.prog.underlying T = some (.int k)) (i j : Nat) (w : World) : ∀ x y, (do eqGuard .neq T x y (.int k i) (.int k j); binOp .neq T (.int k i) (.int k j) : Sem Value).run Tryz.prog w = .ok (.bool (!decide (i = j))) w := by
  intro x y
  rw [neq_int u]
  simp [Int.natCast_inj]
theorem neq_bool {T : TypeId} (u : Tryz.prog.underlying T = some .bool) (i j : Bool) (w : World) : ∀ x y, (do eqGuard .neq T x y (.bool i) (.bool j); binOp .neq T (.bool i) (.bool j) : Sem Value).run Tryz.prog w = .ok (.bool (!decide (i = j))) w := by
  intro x y
  cases i <;> cases j <;> go_simp
theorem neq_str {T : TypeId} (u : Tryz.prog.underlying T = some .string) (i j : ByteArray) (w : World) : ∀ x y, (do eqGuard .neq T x y (.string i) (.string j); binOp .neq T (.string i) (.string j) : Sem Value).run Tryz.prog w = .ok (.bool (!decide (i = j))) w := by
  intro x y
  have e : (i.toList == j.toList) = decide (i = j) := by rw [Bool.eq_iff_iff]; simp [toList_inj]
  have e2 : (i.toList != j.toList) = !decide (i = j) := by rw [Bool.eq_iff_iff]; simp [toList_inj]
  go_simp
theorem rkf0 (B : Nat) (w : World) : (Instr.fieldAt 27 (.pointer (some ⟨B, 0, none⟩)) 0).run Tryz.prog w = .ok (.pointer (some ⟨B, 0, none⟩)) w := by
  have u := Tryz.underlying27
  go_simp
theorem rkf1 (B : Nat) (w : World) : (Instr.fieldAt 27 (.pointer (some ⟨B, 0, none⟩)) 1).run Tryz.prog w = .ok (.pointer (some ⟨B, 1, none⟩)) w := by
  have u := Tryz.underlying27
  go_simp
theorem rkf2 (B : Nat) (w : World) : (Instr.fieldAt 27 (.pointer (some ⟨B, 0, none⟩)) 2).run Tryz.prog w = .ok (.pointer (some ⟨B, 2, none⟩)) w := by
  have u := Tryz.underlying27
  go_simp
theorem rkf3 (B : Nat) (w : World) : (Instr.fieldAt 27 (.pointer (some ⟨B, 0, none⟩)) 3).run Tryz.prog w = .ok (.pointer (some ⟨B, 3, none⟩)) w := by
  have u := Tryz.underlying27
  go_simp
theorem rkf4 (B : Nat) (w : World) : (Instr.fieldAt 27 (.pointer (some ⟨B, 0, none⟩)) 4).run Tryz.prog w = .ok (.pointer (some ⟨B, 4, none⟩)) w := by
  have u := Tryz.underlying27
  go_simp
theorem rkf5 (B : Nat) (w : World) : (Instr.fieldAt 27 (.pointer (some ⟨B, 0, none⟩)) 5).run Tryz.prog w = .ok (.pointer (some ⟨B, 5, none⟩)) w := by
  have u := Tryz.underlying27
  go_simp
theorem rkf6 (B : Nat) (w : World) : (Instr.fieldAt 27 (.pointer (some ⟨B, 0, none⟩)) 6).run Tryz.prog w = .ok (.pointer (some ⟨B, 6, none⟩)) w := by
  have u := Tryz.underlying27
  go_simp
theorem rkf7 (B : Nat) (w : World) : (Instr.fieldAt 27 (.pointer (some ⟨B, 0, none⟩)) 7).run Tryz.prog w = .ok (.pointer (some ⟨B, 7, none⟩)) w := by
  have u := Tryz.underlying27
  go_simp
theorem rkf8 (B : Nat) (w : World) : (Instr.fieldAt 27 (.pointer (some ⟨B, 0, none⟩)) 8).run Tryz.prog w = .ok (.pointer (some ⟨B, 8, none⟩)) w := by
  have u := Tryz.underlying27
  go_simp
theorem rkf9 (B : Nat) (w : World) : (Instr.fieldAt 27 (.pointer (some ⟨B, 0, none⟩)) 9).run Tryz.prog w = .ok (.pointer (some ⟨B, 9, none⟩)) w := by
  have u := Tryz.underlying27
  go_simp
theorem rkf10 (B : Nat) (w : World) : (Instr.fieldAt 27 (.pointer (some ⟨B, 0, none⟩)) 10).run Tryz.prog w = .ok (.pointer (some ⟨B, 10, none⟩)) w := by
  have u := Tryz.underlying27
  go_simp
theorem rkf11 (B : Nat) (w : World) : (Instr.fieldAt 27 (.pointer (some ⟨B, 0, none⟩)) 11).run Tryz.prog w = .ok (.pointer (some ⟨B, 11, none⟩)) w := by
  have u := Tryz.underlying27
  go_simp
theorem rkf12 (B : Nat) (w : World) : (Instr.fieldAt 27 (.pointer (some ⟨B, 0, none⟩)) 12).run Tryz.prog w = .ok (.pointer (some ⟨B, 12, none⟩)) w := by
  have u := Tryz.underlying27
  go_simp
theorem rkf14 (B : Nat) (w : World) : (Instr.fieldAt 27 (.pointer (some ⟨B, 0, none⟩)) 14).run Tryz.prog w = .ok (.pointer (some ⟨B, 14, none⟩)) w := by
  have u := Tryz.underlying27
  go_simp
theorem rkf15 (B : Nat) (w : World) : (Instr.fieldAt 27 (.pointer (some ⟨B, 0, none⟩)) 15).run Tryz.prog w = .ok (.pointer (some ⟨B, 15, none⟩)) w := by
  have u := Tryz.underlying27
  go_simp
theorem rkf16 (B : Nat) (w : World) : (Instr.fieldAt 27 (.pointer (some ⟨B, 0, none⟩)) 16).run Tryz.prog w = .ok (.pointer (some ⟨B, 16, none⟩)) w := by
  have u := Tryz.underlying27
  go_simp
theorem rkf17 (B : Nat) (w : World) : (Instr.fieldAt 27 (.pointer (some ⟨B, 0, none⟩)) 17).run Tryz.prog w = .ok (.pointer (some ⟨B, 17, none⟩)) w := by
  have u := Tryz.underlying27
  go_simp
theorem rkf18 (B : Nat) (w : World) : (Instr.fieldAt 27 (.pointer (some ⟨B, 0, none⟩)) 18).run Tryz.prog w = .ok (.pointer (some ⟨B, 18, none⟩)) w := by
  have u := Tryz.underlying27
  go_simp
theorem rkf19 (B : Nat) (w : World) : (Instr.fieldAt 27 (.pointer (some ⟨B, 0, none⟩)) 19).run Tryz.prog w = .ok (.pointer (some ⟨B, 19, none⟩)) w := by
  have u := Tryz.underlying27
  go_simp
theorem rkf20 (B : Nat) (w : World) : (Instr.fieldAt 27 (.pointer (some ⟨B, 0, none⟩)) 20).run Tryz.prog w = .ok (.pointer (some ⟨B, 20, none⟩)) w := by
  have u := Tryz.underlying27
  go_simp
theorem rkf21 (B : Nat) (w : World) : (Instr.fieldAt 27 (.pointer (some ⟨B, 0, none⟩)) 21).run Tryz.prog w = .ok (.pointer (some ⟨B, 21, none⟩)) w := by
  have u := Tryz.underlying27
  go_simp
theorem neq_rf (i1 i2 : Nat) (a1 a2 : ByteArray) (w : World) : Sem.run Tryz.prog (binOp .neq 47 (.agg #[.string a1, .int .u8 i1]) (.agg #[.string a2, .int .u8 i2])) w = .ok (.bool (!decide ((⟨a1, i1⟩ : Fi) = ⟨a2, i2⟩))) w := by
  have hS : Tryz.prog.underlying 47 = some (.struct (Tryz.prog.fieldsOf 47)) := by kernel_rfl
  have hp : Tryz.prog.stoodInHeld 47 = false := by kernel_rfl
  rw [run_neq_struct, show (10000 : Nat) = 9999 + 1 from rfl, run_equalIn_agg w 9999 47 _ _ hS hp]
  simp only [Program.fieldsOf, Tryz.underlying47]
  have u0 := Tryz.underlying5
  have u2 := Tryz.underlying9
  go_simp
  by_cases h1 : i1 = i2 <;> by_cases h3 : a1 = a2 <;> simp [h1, h3, toList_inj, Int.natCast_inj]
theorem cvB {w : World} {a : Option Addr} {c : Nat} {l : List UInt8} (h : Row w a (B8 l)) (hn : a = none → c = 0) : ∀ wx, Kept No w wx → (convert 25 9 (.slice a l.length c)).run Tryz.prog wx = .ok (.string ⟨l.toArray⟩) wx :=
  fun wx hk => row_str _ _ 5 Tryz.underlying25 Tryz.underlying5 Tryz.underlying9 (h.keptNo hk) c hn
theorem b_ne {C D : List UInt8} (h : C ≠ D) : ((⟨C.toArray⟩ : ByteArray).toList == (⟨D.toArray⟩ : ByteArray).toList) = false := by
  rw [Lib.toList_data, Lib.toList_data]
  simpa using h
/-- Its text and code lists are not there only if they are empty. -/
structure Sl.ok (s : Sl) : Prop where
  c : s.ca = none → s.cc = 0
set_option maxHeartbeats 8000000 in
theorem rpksame_any (p q : Pk) (s t : Sl) (w : World) (hp : p.At s w) (hq : q.At t w) (hpf : p.few) (hqf : q.few) (hs : s.ok) (ht : t.ok) :
    Calls Tryz.prog 11 #[p.val s, q.val t] w fun e w' => e = .returned (.bool (decide (p = q))) ∧ Kept No w w' := by
  obtain ⟨k1, d1, r1, o1, i1, c1, e1, l1, h1, u1, a1, g1, m1, P1, t1, b1, s1, v1, n1, z1, j1, x1, F1, C1, Q1⟩ := p
  obtain ⟨k2, d2, r2, o2, i2, c2, e2, l2, h2, u2, a2, g2, m2, P2, t2, b2, s2, v2, n2, z2, j2, x2, F2, C2, Q2⟩ := q
  obtain ⟨hw1, hf1, hc1, hp1⟩ := hp
  obtain ⟨hw2, hf2, hc2, hp2⟩ := hq
  obtain ⟨lw1, lf1, lc1, lp1⟩ := hpf
  obtain ⟨lw2, lf2, lc2, lp2⟩ := hqf
  dsimp only at hw1 hf1 hc1 hp1 hw2 hf2 hc2 hp2 lw1 lf1 lc1 lp1 lw2 lf2 lc2 lp2
  have CV1 := Lib.hid (cvB hc1 hs.c)
  have CV2 := Lib.hid (cvB hc2 ht.c)
  have HP := Lib.hid (fun wx (hk : Kept No w wx) => rsame_any s.pa s.pc Q1 t.pa t.pc Q2 wx (hp1.keptNo hk) (hp2.keptNo hk) lp1 lp2)
  have HW := Lib.hid (fun wx (hk : Kept No w wx) => rsame_any s.wa s.wc P1 t.wa t.wc P2 wx (hw1.keptNo hk) (hw2.keptNo hk) lw1 lw2)
  have NE : ∀ (h : ¬ (F1 = F2 ∧ C1 = C2 ∧ Q1 = Q2 ∧ P1 = P2)), decide ((⟨k1, d1, r1, o1, i1, c1, e1, l1, h1, u1, a1, g1, m1, P1, t1, b1, s1, v1, n1, z1, j1, x1, F1, C1, Q1⟩ : Pk) = ⟨k2, d2, r2, o2, i2, c2, e2, l2, h2, u2, a2, g2, m2, P2, t2, b2, s2, v2, n2, z2, j2, x2, F2, C2, Q2⟩) = false := fun h => by
    refine decide_eq_false fun e => h ?_
    simp only [Pk.mk.injEq] at e
    simp [e]
  have HNE := Lib.hid NE
  clear NE hw1 hc1 hp1 hw2 hc2 hp2 hs ht
  have hkB : Kept No w ((w.alloc (.cells (Pk.cells ⟨k1, d1, r1, o1, i1, c1, e1, l1, h1, u1, a1, g1, m1, P1, t1, b1, s1, v1, n1, z1, j1, x1, F1, C1, Q1⟩ s) 27)).alloc (.cells (Pk.cells ⟨k2, d2, r2, o2, i2, c2, e2, l2, h2, u2, a2, g2, m2, P2, t2, b2, s2, v2, n2, z2, j2, x2, F2, C2, Q2⟩ t) 27)) := ((Kept.refl No w).alloc _).alloc _
  have hB1 := (Blk.new w 27 (Pk.cells ⟨k1, d1, r1, o1, i1, c1, e1, l1, h1, u1, a1, g1, m1, P1, t1, b1, s1, v1, n1, z1, j1, x1, F1, C1, Q1⟩ s)).alloc (.cells (Pk.cells ⟨k2, d2, r2, o2, i2, c2, e2, l2, h2, u2, a2, g2, m2, P2, t2, b2, s2, v2, n2, z2, j2, x2, F2, C2, Q2⟩ t) 27)
  have hB2 := Blk.new (w.alloc (.cells (Pk.cells ⟨k1, d1, r1, o1, i1, c1, e1, l1, h1, u1, a1, g1, m1, P1, t1, b1, s1, v1, n1, z1, j1, x1, F1, C1, Q1⟩ s) 27)) 27 (Pk.cells ⟨k2, d2, r2, o2, i2, c2, e2, l2, h2, u2, a2, g2, m2, P2, t2, b2, s2, v2, n2, z2, j2, x2, F2, C2, Q2⟩ t)
  simp only [World.size_alloc] at hB2
  have HB1 := Lib.hid (fun wx (hk : Kept No ((w.alloc (.cells (Pk.cells ⟨k1, d1, r1, o1, i1, c1, e1, l1, h1, u1, a1, g1, m1, P1, t1, b1, s1, v1, n1, z1, j1, x1, F1, C1, Q1⟩ s) 27)).alloc (.cells (Pk.cells ⟨k2, d2, r2, o2, i2, c2, e2, l2, h2, u2, a2, g2, m2, P2, t2, b2, s2, v2, n2, z2, j2, x2, F2, C2, Q2⟩ t) 27)) wx) (i : Nat) => (hB1.kept hk (fun f => f)).cell i)
  have HB2 := Lib.hid (fun wx (hk : Kept No ((w.alloc (.cells (Pk.cells ⟨k1, d1, r1, o1, i1, c1, e1, l1, h1, u1, a1, g1, m1, P1, t1, b1, s1, v1, n1, z1, j1, x1, F1, C1, Q1⟩ s) 27)).alloc (.cells (Pk.cells ⟨k2, d2, r2, o2, i2, c2, e2, l2, h2, u2, a2, g2, m2, P2, t2, b2, s2, v2, n2, z2, j2, x2, F2, C2, Q2⟩ t) 27)) wx) (i : Nat) => (hB2.kept hk (fun f => f)).cell i)
  clear hB1 hB2
  have hcv1 := CV1.out _ hkB
  have hcv2 := CV2.out _ hkB
  simp only [Pk.val, Pk.cells] at hkB hcv1 hcv2 ⊢
  by_cases hF : F1.length = F2.length
  case neg =>
    have hR := HNE.out (fun h => hF (by rw [h.1]))
    have hFI : ((F1.length : Int) != (F2.length : Int)) = true := by simp; omega
    rw [hR]
    clear hR hF HNE
    go_enter Tryz.func11, Tryz.ntmps11
    go_wp2
    go_ret
    exact ⟨rfl, hkB⟩
  have hFI : ((F1.length : Int) != (F2.length : Int)) = false := by simp; omega
  have HF := Lib.hid hF
  clear hF
  by_cases hC : C1 = C2
  case neg =>
    have hR := HNE.out (fun h => hC h.2.1)
    have hCI := b_ne hC
    rw [hR]
    clear hR HNE
    go_enter Tryz.func11, Tryz.ntmps11
    go_wp2
    go_ret
    exact ⟨rfl, hkB⟩
  subst hC
  by_cases hQ : Q1 = Q2
  case neg =>
    have hR := HNE.out (fun h => hQ h.2.2.1)
    have c := HP.out _ hkB
    rw [decide_eq_false hQ] at c
    rw [hR]
    clear hR hQ HNE
    go_enter Tryz.func11, Tryz.ntmps11
    go_wp2_with fail
    go_at_call 30
    refine c.mono ?_
    rintro e w1 ⟨rfl, hk1⟩
    go_wp2
    go_ret
    exact ⟨rfl, hkB.trans hk1⟩
  have cP := HP.out _ hkB
  rw [decide_eq_true hQ] at cP
  have HQ := Lib.hid hQ
  clear hQ
  by_cases hW : P1 = P2
  case neg =>
    have hR := HNE.out (fun h => hW h.2.2.2)
    have cW := HW.out
    rw [decide_eq_false hW] at cW
    rw [hR]
    clear hR hW HNE
    go_enter Tryz.func11, Tryz.ntmps11
    go_wp2_with fail
    go_at_call 30
    refine cP.mono ?_
    rintro e w1 ⟨rfl, hk1⟩
    have y1 : w1.cell? ⟨w.heap.size, 13, none⟩ = some (.slice s.wa P1.length s.wc) := HB1.out w1 hk1 13
    have y2 : w1.cell? ⟨w.heap.size + 1, 13, none⟩ = some (.slice t.wa P2.length t.wc) := HB2.out w1 hk1 13
    go_wp2_with fail
    go_at_call 30
    refine (cW _ (hkB.trans hk1)).mono ?_
    rintro e w2 ⟨rfl, hk2⟩
    go_wp2
    go_ret
    exact ⟨rfl, (hkB.trans hk1).trans hk2⟩
  have cW := HW.out
  rw [decide_eq_true hW] at cW
  have HWQ := Lib.hid hW
  clear hW
  generalize hR : decide ((⟨k1, d1, r1, o1, i1, c1, e1, l1, h1, u1, a1, g1, m1, P1, t1, b1, s1, v1, n1, z1, j1, x1, F1, C1, Q1⟩ : Pk) = ⟨k2, d2, r2, o2, i2, c2, e2, l2, h2, u2, a2, g2, m2, P2, t2, b2, s2, v2, n2, z2, j2, x2, F2, C1, Q2⟩) = R at *
  have HR := Lib.hid hR
  clear hR
  go_enter Tryz.func11, Tryz.ntmps11
  go_wp2_with fail
  go_at_call 30
  refine cP.mono ?_
  rintro e w1 ⟨rfl, hk1⟩
  have y1 : w1.cell? ⟨w.heap.size, 13, none⟩ = some (.slice s.wa P1.length s.wc) := HB1.out w1 hk1 13
  have y2 : w1.cell? ⟨w.heap.size + 1, 13, none⟩ = some (.slice t.wa P2.length t.wc) := HB2.out w1 hk1 13
  go_wp2_with fail
  go_at_call 30
  refine (cW _ (hkB.trans hk1)).mono ?_
  rintro e w2 ⟨rfl, hk2⟩
  have hkk := hk1.trans hk2
  go_wp2_with fail
  rename_i K8 hK8
  have HK8 := Lib.hid hK8
  clear hK8
  go_loopw [5] (fun i wr => ∃ j : Nat, i = .int .i64 j ∧ j ≤ F1.length ∧ Hid (F1.take j = F2.take j) ∧ Kept No w2 wr) (fun i _ => F1.length - (intOf i).toNat)
  case atStart => exact ⟨0, rfl, by omega, Lib.hid rfl, Kept.refl _ _⟩
  case round =>
    obtain ⟨j, rfl, hj, HT, hk3⟩ := hrel
    have y3 : wr.cell? ⟨w.heap.size, 22, none⟩ = some (.slice s.fa F1.length s.fc) := HB1.out wr (hkk.trans hk3) 22
    have y4 : wr.cell? ⟨w.heap.size + 1, 22, none⟩ = some (.slice t.fa F2.length t.fc) := HB2.out wr (hkk.trans hk3) 22
    by_cases hlt : j < F1.length
    · have hlt9 : j < F2.length := by rw [← HF.out]; exact hlt
      obtain ⟨b, off, hba, hb, q0, q1⟩ := (hf1.keptNo ((hkB.trans hkk).trans hk3)).filt hlt
      obtain ⟨b9, of9, hb9a, hb9, r0, r1⟩ := (hf2.keptNo ((hkB.trans hkk).trans hk3)).filt hlt9
      rw [hba] at y3
      rw [hb9a] at y4
      clear hba hb9a
      have HS := Lib.hid (take_sameX HT.out hlt hlt9)
      have HN : Hid (F1[j] ≠ F2[j] → R = false) := Lib.hid (fun h => by
        rw [← HR.out]
        refine decide_eq_false fun e => h ?_
        simp only [Pk.mk.injEq] at e
        have e2 : F1 = F2 := by simp [e]
        subst e2
        rfl)
      generalize F1[j] = p at *
      generalize F2[j] = q at *
      obtain ⟨a1, i1⟩ := p
      obtain ⟨a2, i2⟩ := q
      dsimp only at q0 q1 r0 r1
      by_cases he : (⟨a1, i1⟩ : Fi) = ⟨a2, i2⟩
      · have HS2 := Lib.hid (HS.out he)
        have hq : ∀ wx, Sem.run Tryz.prog (binOp .neq 47 (.agg #[.string a1, .int .u8 i1]) (.agg #[.string a2, .int .u8 i2])) wx = .ok (.bool false) wx := fun wx => by rw [neq_rf, decide_eq_true he]; rfl
        clear he HS HN
        go_wp2
        refine wp_region_held_drew (S := (fun wx => (wx.cell? ⟨w.heap.size, 22, none⟩ = some (.slice (some ⟨b, off, none⟩) F1.length s.fc) ∧ wx.cell? ⟨w.heap.size + 1, 22, none⟩ = some (.slice (some ⟨b9, of9, none⟩) F2.length t.fc)) ∧ (wx.cell? ⟨b, off + j * 2, none⟩ = some (.string a1) ∧ wx.cell? ⟨b, off + j * 2 + 1, none⟩ = some (.int .u8 i1)) ∧ (wx.cell? ⟨b9, of9 + j * 2, none⟩ = some (.string a2) ∧ wx.cell? ⟨b9, of9 + j * 2 + 1, none⟩ = some (.int .u8 i2)))) (by kernel_rfl) ?_ (fun hHeld => ?_)
        · exact ⟨⟨y3, y4⟩, ⟨q0, q1⟩, ⟨r0, r1⟩⟩
        refine wpAnyH_take (i := 0) (v := ?vvry0) rfl (by kernel_rfl) (by kernel_rfl) (by kernel_rfl) (fun _ _ _ h => h) (Or.inl ⟨by rfl, ?hhry0⟩) (by assumption) ?rrry0
        case hhry0 => (intro wz9 hSw; (try dsimp only at hSw); go_simp; try with_reducible rfl)
        go_simp
        refine wpAnyH_take (i := 1) (v := (.slice (some ⟨b, off, none⟩) F1.length s.fc)) rfl (by kernel_rfl) (by kernel_rfl) (by kernel_rfl) (fun _ _ _ h => h) (Or.inl ⟨by rfl, ?hhry1⟩) (by assumption) ?rrry1
        case hhry1 => (intro wz9 hSw; (try dsimp only at hSw); go_simp; try with_reducible rfl)
        go_simp
        refine wpAnyH_take (i := 2) (v := ?vvry2) rfl (by kernel_rfl) (by kernel_rfl) (by kernel_rfl) (fun _ _ _ h => h) (Or.inl ⟨by rfl, ?hhry2⟩) (by assumption) ?rrry2
        case hhry2 => (intro wz9 hSw; (try dsimp only at hSw); go_simp; try with_reducible rfl)
        go_simp
        refine wpAnyH_take (i := 3) (v := ?vvry3) rfl (by kernel_rfl) (by kernel_rfl) (by kernel_rfl) (fun _ _ _ h => h) (Or.inl ⟨by rfl, ?hhry3⟩) (by assumption) ?rrry3
        case hhry3 => (intro wz9 hSw; (try dsimp only at hSw); go_simp; try with_reducible rfl)
        go_simp
        refine wpAnyH_take (i := 4) (v := (.agg #[.string a1, .int .u8 i1])) rfl (by kernel_rfl) (by kernel_rfl) (by kernel_rfl) (fun _ _ _ h => h) (Or.inl ⟨by rfl, ?hhry4⟩) (by assumption) ?rrry4
        case hhry4 => (intro wz9 hSw; (try dsimp only at hSw); go_simp; try with_reducible rfl)
        go_simp
        refine wpAnyH_take (i := 5) (v := ?vvry5) rfl (by kernel_rfl) (by kernel_rfl) (by kernel_rfl) (fun _ _ _ h => h) (Or.inl ⟨by rfl, ?hhry5⟩) (by assumption) ?rrry5
        case hhry5 => (intro wz9 hSw; (try dsimp only at hSw); go_simp; try with_reducible rfl)
        go_simp
        refine wpAnyH_take (i := 6) (v := (.slice (some ⟨b9, of9, none⟩) F2.length t.fc)) rfl (by kernel_rfl) (by kernel_rfl) (by kernel_rfl) (fun _ _ _ h => h) (Or.inl ⟨by rfl, ?hhry6⟩) (by assumption) ?rrry6
        case hhry6 => (intro wz9 hSw; (try dsimp only at hSw); go_simp; try with_reducible rfl)
        go_simp
        refine wpAnyH_take (i := 7) (v := ?vvry7) rfl (by kernel_rfl) (by kernel_rfl) (by kernel_rfl) (fun _ _ _ h => h) (Or.inl ⟨by rfl, ?hhry7⟩) (by assumption) ?rrry7
        case hhry7 => (intro wz9 hSw; (try dsimp only at hSw); go_simp; try with_reducible rfl)
        go_simp
        refine wpAnyH_take (i := 8) (v := ?vvry8) rfl (by kernel_rfl) (by kernel_rfl) (by kernel_rfl) (fun _ _ _ h => h) (Or.inl ⟨by rfl, ?hhry8⟩) (by assumption) ?rrry8
        case hhry8 => (intro wz9 hSw; (try dsimp only at hSw); go_simp; try with_reducible rfl)
        go_simp
        refine wpAnyH_take (i := 9) (v := (.agg #[.string a2, .int .u8 i2])) rfl (by kernel_rfl) (by kernel_rfl) (by kernel_rfl) (fun _ _ _ h => h) (Or.inl ⟨by rfl, ?hhry9⟩) (by assumption) ?rrry9
        case hhry9 => (intro wz9 hSw; (try dsimp only at hSw); go_simp; try with_reducible rfl)
        go_simp
        refine wpAnyH_take (i := 10) (v := (.bool false)) rfl (by kernel_rfl) (by kernel_rfl) (by kernel_rfl) (fun _ _ _ h => h) (Or.inl ⟨by rfl, ?hhry10⟩) (by assumption) ?rrry10
        case hhry10 => (intro wz9 hSw; (try dsimp only at hSw); go_simp; try with_reducible rfl)
        go_simp
        refine wpAnyH_done (by kernel_rfl) ?_ _
        go_wp2
        go_roundw
        case rel => exact ⟨j + 1, by go_num, by omega, HS2, hk3.drew⟩
        case measure => simp [intOf]; omega
      · have HN2 := Lib.hid (HN.out he)
        have hq : ∀ wx, Sem.run Tryz.prog (binOp .neq 47 (.agg #[.string a1, .int .u8 i1]) (.agg #[.string a2, .int .u8 i2])) wx = .ok (.bool true) wx := fun wx => by rw [neq_rf, decide_eq_false he]; rfl
        clear he HS HN
        go_wp2
        refine wp_region_held_drew (S := (fun wx => (wx.cell? ⟨w.heap.size, 22, none⟩ = some (.slice (some ⟨b, off, none⟩) F1.length s.fc) ∧ wx.cell? ⟨w.heap.size + 1, 22, none⟩ = some (.slice (some ⟨b9, of9, none⟩) F2.length t.fc)) ∧ (wx.cell? ⟨b, off + j * 2, none⟩ = some (.string a1) ∧ wx.cell? ⟨b, off + j * 2 + 1, none⟩ = some (.int .u8 i1)) ∧ (wx.cell? ⟨b9, of9 + j * 2, none⟩ = some (.string a2) ∧ wx.cell? ⟨b9, of9 + j * 2 + 1, none⟩ = some (.int .u8 i2)))) (by kernel_rfl) ?_ (fun hHeld => ?_)
        · exact ⟨⟨y3, y4⟩, ⟨q0, q1⟩, ⟨r0, r1⟩⟩
        refine wpAnyH_take (i := 0) (v := ?vvrn0) rfl (by kernel_rfl) (by kernel_rfl) (by kernel_rfl) (fun _ _ _ h => h) (Or.inl ⟨by rfl, ?hhrn0⟩) (by assumption) ?rrrn0
        case hhrn0 => (intro wz9 hSw; (try dsimp only at hSw); go_simp; try with_reducible rfl)
        go_simp
        refine wpAnyH_take (i := 1) (v := (.slice (some ⟨b, off, none⟩) F1.length s.fc)) rfl (by kernel_rfl) (by kernel_rfl) (by kernel_rfl) (fun _ _ _ h => h) (Or.inl ⟨by rfl, ?hhrn1⟩) (by assumption) ?rrrn1
        case hhrn1 => (intro wz9 hSw; (try dsimp only at hSw); go_simp; try with_reducible rfl)
        go_simp
        refine wpAnyH_take (i := 2) (v := ?vvrn2) rfl (by kernel_rfl) (by kernel_rfl) (by kernel_rfl) (fun _ _ _ h => h) (Or.inl ⟨by rfl, ?hhrn2⟩) (by assumption) ?rrrn2
        case hhrn2 => (intro wz9 hSw; (try dsimp only at hSw); go_simp; try with_reducible rfl)
        go_simp
        refine wpAnyH_take (i := 3) (v := ?vvrn3) rfl (by kernel_rfl) (by kernel_rfl) (by kernel_rfl) (fun _ _ _ h => h) (Or.inl ⟨by rfl, ?hhrn3⟩) (by assumption) ?rrrn3
        case hhrn3 => (intro wz9 hSw; (try dsimp only at hSw); go_simp; try with_reducible rfl)
        go_simp
        refine wpAnyH_take (i := 4) (v := (.agg #[.string a1, .int .u8 i1])) rfl (by kernel_rfl) (by kernel_rfl) (by kernel_rfl) (fun _ _ _ h => h) (Or.inl ⟨by rfl, ?hhrn4⟩) (by assumption) ?rrrn4
        case hhrn4 => (intro wz9 hSw; (try dsimp only at hSw); go_simp; try with_reducible rfl)
        go_simp
        refine wpAnyH_take (i := 5) (v := ?vvrn5) rfl (by kernel_rfl) (by kernel_rfl) (by kernel_rfl) (fun _ _ _ h => h) (Or.inl ⟨by rfl, ?hhrn5⟩) (by assumption) ?rrrn5
        case hhrn5 => (intro wz9 hSw; (try dsimp only at hSw); go_simp; try with_reducible rfl)
        go_simp
        refine wpAnyH_take (i := 6) (v := (.slice (some ⟨b9, of9, none⟩) F2.length t.fc)) rfl (by kernel_rfl) (by kernel_rfl) (by kernel_rfl) (fun _ _ _ h => h) (Or.inl ⟨by rfl, ?hhrn6⟩) (by assumption) ?rrrn6
        case hhrn6 => (intro wz9 hSw; (try dsimp only at hSw); go_simp; try with_reducible rfl)
        go_simp
        refine wpAnyH_take (i := 7) (v := ?vvrn7) rfl (by kernel_rfl) (by kernel_rfl) (by kernel_rfl) (fun _ _ _ h => h) (Or.inl ⟨by rfl, ?hhrn7⟩) (by assumption) ?rrrn7
        case hhrn7 => (intro wz9 hSw; (try dsimp only at hSw); go_simp; try with_reducible rfl)
        go_simp
        refine wpAnyH_take (i := 8) (v := ?vvrn8) rfl (by kernel_rfl) (by kernel_rfl) (by kernel_rfl) (fun _ _ _ h => h) (Or.inl ⟨by rfl, ?hhrn8⟩) (by assumption) ?rrrn8
        case hhrn8 => (intro wz9 hSw; (try dsimp only at hSw); go_simp; try with_reducible rfl)
        go_simp
        refine wpAnyH_take (i := 9) (v := (.agg #[.string a2, .int .u8 i2])) rfl (by kernel_rfl) (by kernel_rfl) (by kernel_rfl) (fun _ _ _ h => h) (Or.inl ⟨by rfl, ?hhrn9⟩) (by assumption) ?rrrn9
        case hhrn9 => (intro wz9 hSw; (try dsimp only at hSw); go_simp; try with_reducible rfl)
        go_simp
        refine wpAnyH_take (i := 10) (v := (.bool true)) rfl (by kernel_rfl) (by kernel_rfl) (by kernel_rfl) (fun _ _ _ h => h) (Or.inl ⟨by rfl, ?hhrn10⟩) (by assumption) ?rrrn10
        case hhrn10 => (intro wz9 hSw; (try dsimp only at hSw); go_simp; try with_reducible rfl)
        go_simp
        refine wpAnyH_done (by kernel_rfl) ?_ _
        go_wp2
        go_ret
        exact ⟨by rw [HN2.out]; rfl, (hkB.trans hkk).trans hk3.drew⟩
    · have HFE : Hid (F1 = F2) := Lib.hid (by
        have h1 := HT.out
        have h9 := HF.out
        rw [List.take_of_length_le (by omega), List.take_of_length_le (by omega)] at h1
        exact h1)
      go_wp2
      refine HK8.out _ _ ?_
      clear HK8
      have hk9 := (hkB.trans hkk).trans hk3
      have cB1 : ∀ {i}, wr.cell? ⟨w.heap.size, i, none⟩ = (Pk.cells ⟨k1, d1, r1, o1, i1, c1, e1, l1, h1, u1, a1, g1, m1, P1, t1, b1, s1, v1, n1, z1, j1, x1, F1, C1, Q1⟩ s)[i]? := fun {i} => HB1.out wr (hkk.trans hk3) i
      have cB2 : ∀ {i}, wr.cell? ⟨w.heap.size + 1, i, none⟩ = (Pk.cells ⟨k2, d2, r2, o2, i2, c2, e2, l2, h2, u2, a2, g2, m2, P2, t2, b2, s2, v2, n2, z2, j2, x2, F2, C1, Q2⟩ t)[i]? := fun {i} => HB2.out wr (hkk.trans hk3) i
      have ld0 : Loads2 Tryz.prog 27 3 3 0 w.heap.size (w.heap.size + 1) (.int .i64 k1) (.int .i64 k2) wr := ⟨rkf0 _ _, rkf0 _ _, pkl_i64 _ _ _ _ (cB1.trans rfl), pkl_i64 _ _ _ _ (cB2.trans rfl)⟩
      have ld1 : Loads2 Tryz.prog 27 4 4 1 w.heap.size (w.heap.size + 1) (.bool d1) (.bool d2) wr := ⟨rkf1 _ _, rkf1 _ _, pkl_bool _ _ _ _ (cB1.trans rfl), pkl_bool _ _ _ _ (cB2.trans rfl)⟩
      have ld2 : Loads2 Tryz.prog 27 4 4 2 w.heap.size (w.heap.size + 1) (.bool r1) (.bool r2) wr := ⟨rkf2 _ _, rkf2 _ _, pkl_bool _ _ _ _ (cB1.trans rfl), pkl_bool _ _ _ _ (cB2.trans rfl)⟩
      have ld3 : Loads2 Tryz.prog 27 5 5 3 w.heap.size (w.heap.size + 1) (.int .u8 (o1 : Nat)) (.int .u8 (o2 : Nat)) wr := ⟨rkf3 _ _, rkf3 _ _, pkl_u8 _ _ _ _ (cB1.trans rfl), pkl_u8 _ _ _ _ (cB2.trans rfl)⟩
      have ld4 : Loads2 Tryz.prog 27 22 22 4 w.heap.size (w.heap.size + 1) (.int .u16 (i1 : Nat)) (.int .u16 (i2 : Nat)) wr := ⟨rkf4 _ _, rkf4 _ _, pkl_u16 _ _ _ _ (cB1.trans rfl), pkl_u16 _ _ _ _ (cB2.trans rfl)⟩
      have ld5 : Loads2 Tryz.prog 27 4 4 5 w.heap.size (w.heap.size + 1) (.bool c1) (.bool c2) wr := ⟨rkf5 _ _, rkf5 _ _, pkl_bool _ _ _ _ (cB1.trans rfl), pkl_bool _ _ _ _ (cB2.trans rfl)⟩
      have ld6 : Loads2 Tryz.prog 27 22 22 6 w.heap.size (w.heap.size + 1) (.int .u16 (e1 : Nat)) (.int .u16 (e2 : Nat)) wr := ⟨rkf6 _ _, rkf6 _ _, pkl_u16 _ _ _ _ (cB1.trans rfl), pkl_u16 _ _ _ _ (cB2.trans rfl)⟩
      have ld7 : Loads2 Tryz.prog 27 9 9 7 w.heap.size (w.heap.size + 1) (.string l1) (.string l2) wr := ⟨rkf7 _ _, rkf7 _ _, pkl_str _ _ _ _ (cB1.trans rfl), pkl_str _ _ _ _ (cB2.trans rfl)⟩
      have ld8 : Loads2 Tryz.prog 27 4 4 8 w.heap.size (w.heap.size + 1) (.bool h1) (.bool h2) wr := ⟨rkf8 _ _, rkf8 _ _, pkl_bool _ _ _ _ (cB1.trans rfl), pkl_bool _ _ _ _ (cB2.trans rfl)⟩
      have ld9 : Loads2 Tryz.prog 27 4 4 9 w.heap.size (w.heap.size + 1) (.bool u1) (.bool u2) wr := ⟨rkf9 _ _, rkf9 _ _, pkl_bool _ _ _ _ (cB1.trans rfl), pkl_bool _ _ _ _ (cB2.trans rfl)⟩
      have ld10 : Loads2 Tryz.prog 27 4 4 10 w.heap.size (w.heap.size + 1) (.bool a1) (.bool a2) wr := ⟨rkf10 _ _, rkf10 _ _, pkl_bool _ _ _ _ (cB1.trans rfl), pkl_bool _ _ _ _ (cB2.trans rfl)⟩
      have ld11 : Loads2 Tryz.prog 27 5 5 11 w.heap.size (w.heap.size + 1) (.int .u8 (g1 : Nat)) (.int .u8 (g2 : Nat)) wr := ⟨rkf11 _ _, rkf11 _ _, pkl_u8 _ _ _ _ (cB1.trans rfl), pkl_u8 _ _ _ _ (cB2.trans rfl)⟩
      have ld12 : Loads2 Tryz.prog 27 4 4 12 w.heap.size (w.heap.size + 1) (.bool m1) (.bool m2) wr := ⟨rkf12 _ _, rkf12 _ _, pkl_bool _ _ _ _ (cB1.trans rfl), pkl_bool _ _ _ _ (cB2.trans rfl)⟩
      have ld14 : Loads2 Tryz.prog 27 9 9 14 w.heap.size (w.heap.size + 1) (.string t1) (.string t2) wr := ⟨rkf14 _ _, rkf14 _ _, pkl_str _ _ _ _ (cB1.trans rfl), pkl_str _ _ _ _ (cB2.trans rfl)⟩
      have ld15 : Loads2 Tryz.prog 27 9 9 15 w.heap.size (w.heap.size + 1) (.string b1) (.string b2) wr := ⟨rkf15 _ _, rkf15 _ _, pkl_str _ _ _ _ (cB1.trans rfl), pkl_str _ _ _ _ (cB2.trans rfl)⟩
      have ld16 : Loads2 Tryz.prog 27 9 9 16 w.heap.size (w.heap.size + 1) (.string s1) (.string s2) wr := ⟨rkf16 _ _, rkf16 _ _, pkl_str _ _ _ _ (cB1.trans rfl), pkl_str _ _ _ _ (cB2.trans rfl)⟩
      have ld17 : Loads2 Tryz.prog 27 9 9 17 w.heap.size (w.heap.size + 1) (.string v1) (.string v2) wr := ⟨rkf17 _ _, rkf17 _ _, pkl_str _ _ _ _ (cB1.trans rfl), pkl_str _ _ _ _ (cB2.trans rfl)⟩
      have ld18 : Loads2 Tryz.prog 27 4 4 18 w.heap.size (w.heap.size + 1) (.bool n1) (.bool n2) wr := ⟨rkf18 _ _, rkf18 _ _, pkl_bool _ _ _ _ (cB1.trans rfl), pkl_bool _ _ _ _ (cB2.trans rfl)⟩
      have ld19 : Loads2 Tryz.prog 27 5 5 19 w.heap.size (w.heap.size + 1) (.int .u8 (z1 : Nat)) (.int .u8 (z2 : Nat)) wr := ⟨rkf19 _ _, rkf19 _ _, pkl_u8 _ _ _ _ (cB1.trans rfl), pkl_u8 _ _ _ _ (cB2.trans rfl)⟩
      have ld20 : Loads2 Tryz.prog 27 9 9 20 w.heap.size (w.heap.size + 1) (.string j1) (.string j2) wr := ⟨rkf20 _ _, rkf20 _ _, pkl_str _ _ _ _ (cB1.trans rfl), pkl_str _ _ _ _ (cB2.trans rfl)⟩
      have ld21 : Loads2 Tryz.prog 27 9 9 21 w.heap.size (w.heap.size + 1) (.string x1) (.string x2) wr := ⟨rkf21 _ _, rkf21 _ _, pkl_str _ _ _ _ (cB1.trans rfl), pkl_str _ _ _ _ (cB2.trans rfl)⟩
      refine wp_seq ?_
      refine wp_seq ?_
      refine wp_region_lit ?_
      refine chain_first (N := 199) (S := 27) (T := 3) (T' := 3) (K := 0) (n := 56) (d7 := 61) (V1 := .int .i64 k1) (V2 := .int .i64 k2) (e := !decide (k1 = k2)) ⟨rfl, rfl, rfl⟩ ⟨rfl, rfl, rfl⟩ ⟨rfl, rfl, rfl⟩ ⟨rfl, rfl, rfl⟩ ⟨rfl, rfl, rfl⟩ ⟨rfl, rfl, rfl⟩ rfl rfl rfl rfl (by omega) (by omega) (by omega) ld0 (neq_int Tryz.underlying3 k1 k2 _) (fun AG1 G1 => ?_)
      refine chain_neq (N := 199) (S := 27) (T := 4) (T' := 4) (K := 1) (n := 62) (gs := 61) (gi := 5) (V1 := .bool d1) (V2 := .bool d2) (e := !decide (d1 = d2)) ⟨rfl, rfl, rfl⟩ ⟨rfl, rfl, rfl⟩ ⟨rfl, rfl, rfl⟩ ⟨rfl, rfl, rfl⟩ ⟨rfl, rfl, rfl⟩ ⟨rfl, rfl, rfl⟩ rfl G1 (by omega) (by omega) (by omega) ld1 (neq_bool Tryz.underlying4 d1 d2 _) (fun AG2 G2 => ?_)
      refine chain_move (g := 67) (d7 := 68) ⟨.inl rfl, rfl, rfl⟩ G2 (by omega) (fun AG2m G2m => ?_)
      refine chain_neq (N := 199) (S := 27) (T := 4) (T' := 4) (K := 2) (n := 69) (gs := 68) (gi := 12) (V1 := .bool r1) (V2 := .bool r2) (e := !decide (r1 = r2)) ⟨rfl, rfl, rfl⟩ ⟨rfl, rfl, rfl⟩ ⟨rfl, rfl, rfl⟩ ⟨rfl, rfl, rfl⟩ ⟨rfl, rfl, rfl⟩ ⟨rfl, rfl, rfl⟩ rfl G2m (by omega) (by omega) (by omega) ld2 (neq_bool Tryz.underlying4 r1 r2 _) (fun AG3 G3 => ?_)
      refine chain_move (g := 74) (d7 := 75) ⟨.inl rfl, rfl, rfl⟩ G3 (by omega) (fun AG3m G3m => ?_)
      refine chain_neq (N := 199) (S := 27) (T := 5) (T' := 5) (K := 3) (n := 76) (gs := 75) (gi := 19) (V1 := .int .u8 (o1 : Nat)) (V2 := .int .u8 (o2 : Nat)) (e := !decide (o1 = o2)) ⟨rfl, rfl, rfl⟩ ⟨rfl, rfl, rfl⟩ ⟨rfl, rfl, rfl⟩ ⟨rfl, rfl, rfl⟩ ⟨rfl, rfl, rfl⟩ ⟨rfl, rfl, rfl⟩ rfl G3m (by omega) (by omega) (by omega) ld3 (neq_nat Tryz.underlying5 o1 o2 _) (fun AG4 G4 => ?_)
      refine chain_move (g := 81) (d7 := 82) ⟨.inl rfl, rfl, rfl⟩ G4 (by omega) (fun AG4m G4m => ?_)
      refine chain_neq (N := 199) (S := 27) (T := 22) (T' := 22) (K := 4) (n := 83) (gs := 82) (gi := 26) (V1 := .int .u16 (i1 : Nat)) (V2 := .int .u16 (i2 : Nat)) (e := !decide (i1 = i2)) ⟨rfl, rfl, rfl⟩ ⟨rfl, rfl, rfl⟩ ⟨rfl, rfl, rfl⟩ ⟨rfl, rfl, rfl⟩ ⟨rfl, rfl, rfl⟩ ⟨rfl, rfl, rfl⟩ rfl G4m (by omega) (by omega) (by omega) ld4 (neq_nat Tryz.underlying22 i1 i2 _) (fun AG5 G5 => ?_)
      refine chain_move (g := 88) (d7 := 89) ⟨.inl rfl, rfl, rfl⟩ G5 (by omega) (fun AG5m G5m => ?_)
      refine chain_neq (N := 199) (S := 27) (T := 4) (T' := 4) (K := 5) (n := 90) (gs := 89) (gi := 33) (V1 := .bool c1) (V2 := .bool c2) (e := !decide (c1 = c2)) ⟨rfl, rfl, rfl⟩ ⟨rfl, rfl, rfl⟩ ⟨rfl, rfl, rfl⟩ ⟨rfl, rfl, rfl⟩ ⟨rfl, rfl, rfl⟩ ⟨rfl, rfl, rfl⟩ rfl G5m (by omega) (by omega) (by omega) ld5 (neq_bool Tryz.underlying4 c1 c2 _) (fun AG6 G6 => ?_)
      refine chain_move (g := 95) (d7 := 96) ⟨.inl rfl, rfl, rfl⟩ G6 (by omega) (fun AG6m G6m => ?_)
      refine chain_neq (N := 199) (S := 27) (T := 22) (T' := 22) (K := 6) (n := 97) (gs := 96) (gi := 40) (V1 := .int .u16 (e1 : Nat)) (V2 := .int .u16 (e2 : Nat)) (e := !decide (e1 = e2)) ⟨rfl, rfl, rfl⟩ ⟨rfl, rfl, rfl⟩ ⟨rfl, rfl, rfl⟩ ⟨rfl, rfl, rfl⟩ ⟨rfl, rfl, rfl⟩ ⟨rfl, rfl, rfl⟩ rfl G6m (by omega) (by omega) (by omega) ld6 (neq_nat Tryz.underlying22 e1 e2 _) (fun AG7 G7 => ?_)
      refine chain_move (g := 102) (d7 := 103) ⟨.inl rfl, rfl, rfl⟩ G7 (by omega) (fun AG7m G7m => ?_)
      refine chain_neq (N := 199) (S := 27) (T := 9) (T' := 9) (K := 7) (n := 104) (gs := 103) (gi := 47) (V1 := .string l1) (V2 := .string l2) (e := !decide (l1 = l2)) ⟨rfl, rfl, rfl⟩ ⟨rfl, rfl, rfl⟩ ⟨rfl, rfl, rfl⟩ ⟨rfl, rfl, rfl⟩ ⟨rfl, rfl, rfl⟩ ⟨rfl, rfl, rfl⟩ rfl G7m (by omega) (by omega) (by omega) ld7 (neq_str Tryz.underlying9 l1 l2 _) (fun AG8 G8 => ?_)
      refine chain_move (g := 109) (d7 := 110) ⟨.inl rfl, rfl, rfl⟩ G8 (by omega) (fun AG8m G8m => ?_)
      refine chain_neq (N := 199) (S := 27) (T := 4) (T' := 4) (K := 8) (n := 111) (gs := 110) (gi := 54) (V1 := .bool h1) (V2 := .bool h2) (e := !decide (h1 = h2)) ⟨rfl, rfl, rfl⟩ ⟨rfl, rfl, rfl⟩ ⟨rfl, rfl, rfl⟩ ⟨rfl, rfl, rfl⟩ ⟨rfl, rfl, rfl⟩ ⟨rfl, rfl, rfl⟩ rfl G8m (by omega) (by omega) (by omega) ld8 (neq_bool Tryz.underlying4 h1 h2 _) (fun AG9 G9 => ?_)
      refine chain_move (g := 116) (d7 := 117) ⟨.inl rfl, rfl, rfl⟩ G9 (by omega) (fun AG9m G9m => ?_)
      refine chain_neq (N := 199) (S := 27) (T := 4) (T' := 4) (K := 9) (n := 118) (gs := 117) (gi := 61) (V1 := .bool u1) (V2 := .bool u2) (e := !decide (u1 = u2)) ⟨rfl, rfl, rfl⟩ ⟨rfl, rfl, rfl⟩ ⟨rfl, rfl, rfl⟩ ⟨rfl, rfl, rfl⟩ ⟨rfl, rfl, rfl⟩ ⟨rfl, rfl, rfl⟩ rfl G9m (by omega) (by omega) (by omega) ld9 (neq_bool Tryz.underlying4 u1 u2 _) (fun AG10 G10 => ?_)
      refine chain_move (g := 123) (d7 := 124) ⟨.inl rfl, rfl, rfl⟩ G10 (by omega) (fun AG10m G10m => ?_)
      refine chain_neq (N := 199) (S := 27) (T := 4) (T' := 4) (K := 10) (n := 125) (gs := 124) (gi := 68) (V1 := .bool a1) (V2 := .bool a2) (e := !decide (a1 = a2)) ⟨rfl, rfl, rfl⟩ ⟨rfl, rfl, rfl⟩ ⟨rfl, rfl, rfl⟩ ⟨rfl, rfl, rfl⟩ ⟨rfl, rfl, rfl⟩ ⟨rfl, rfl, rfl⟩ rfl G10m (by omega) (by omega) (by omega) ld10 (neq_bool Tryz.underlying4 a1 a2 _) (fun A8 G11 => ?_)
      refine wpList_nil ?_
      obtain ⟨b8, hb8⟩ : ∃ b8, b8 = ((((((((((((!decide (k1 = k2)) || (!decide (d1 = d2))) || (!decide (r1 = r2))) || (!decide (o1 = o2))) || (!decide (i1 = i2))) || (!decide (c1 = c2))) || (!decide (e1 = e2))) || (!decide (l1 = l2))) || (!decide (h1 = h2))) || (!decide (u1 = u2))) || (!decide (a1 = a2)))) := ⟨_, rfl⟩
      rw [← hb8] at G11
      refine wp_cond (t := b8) (eval_of G11.g) ?_
      cases b8 with
      | true =>
        rw [if_pos rfl]
        have hRf : R = false := by
          rw [← HR.out]
          refine decide_eq_false fun e => ?_
          simp only [Pk.mk.injEq] at e
          simp [e] at hb8
        refine wp_seq ?_
        refine wp_region_lit ?_
        refine wpList_do rfl (v := .bool false) (w' := wr) (by simp [execOp, Act.eval]) ?_
        refine wpList_nil ?_
        refine wp_ret_any ?_
        refine (show bodyPost Tryz.prog Tryz.f11 (fun e w' => e = Ending.returned (Value.bool R) ∧ Kept No w w') Exit.ret _ _ from ?_)
        refine bodyPost_ret (v := .bool false) ?_ G11.d ⟨by rw [hRf], hk9⟩
        rw [results_tmp rfl]
        have := put_eq (a := A8) (d := 4) (v := .bool false) (by rw [G11.size]; omega)
        simp [this]
      | false =>
        rw [if_neg (by simp)]
        refine wp_skip ?_
        refine wp_seq ?_
        refine wp_region_lit ?_
        refine chain_first (N := 199) (S := 27) (T := 5) (T' := 5) (K := 11) (n := 131) (d7 := 136) (V1 := .int .u8 (g1 : Nat)) (V2 := .int .u8 (g2 : Nat)) (e := decide (g1 = g2)) ⟨rfl, rfl, rfl⟩ ⟨rfl, rfl, rfl⟩ ⟨rfl, rfl, rfl⟩ ⟨rfl, rfl, rfl⟩ ⟨rfl, rfl, rfl⟩ ⟨rfl, rfl, rfl⟩ G11.size G11.t2 G11.t3 G11.d (by omega) (by omega) (by omega) ld11 (eql_nat Tryz.underlying5 g1 g2 _) (fun AJ1 J1 => ?_)
        refine chain_eql (N := 199) (S := 27) (T := 4) (T' := 4) (K := 12) (n := 137) (gs := 136) (gi := 5) (d7 := 143) (V1 := .bool m1) (V2 := .bool m2) (e := decide (m1 = m2)) ⟨rfl, rfl, rfl⟩ ⟨rfl, rfl, rfl⟩ ⟨rfl, rfl, rfl⟩ ⟨rfl, rfl, rfl⟩ ⟨rfl, rfl, rfl⟩ ⟨rfl, rfl, rfl⟩ ⟨.inl rfl, rfl, rfl⟩ rfl J1 (by omega) (by omega) (by omega) (by omega) ld12 (eql_bool Tryz.underlying4 m1 m2 _) (fun AJ2 J2 => ?_)
        refine chain_eql (N := 199) (S := 27) (T := 9) (T' := 9) (K := 14) (n := 144) (gs := 143) (gi := 12) (d7 := 150) (V1 := .string t1) (V2 := .string t2) (e := decide (t1 = t2)) ⟨rfl, rfl, rfl⟩ ⟨rfl, rfl, rfl⟩ ⟨rfl, rfl, rfl⟩ ⟨rfl, rfl, rfl⟩ ⟨rfl, rfl, rfl⟩ ⟨rfl, rfl, rfl⟩ ⟨.inl rfl, rfl, rfl⟩ rfl J2 (by omega) (by omega) (by omega) (by omega) ld14 (eql_str Tryz.underlying9 t1 t2 _) (fun AJ3 J3 => ?_)
        refine chain_eql (N := 199) (S := 27) (T := 9) (T' := 9) (K := 15) (n := 151) (gs := 150) (gi := 19) (d7 := 157) (V1 := .string b1) (V2 := .string b2) (e := decide (b1 = b2)) ⟨rfl, rfl, rfl⟩ ⟨rfl, rfl, rfl⟩ ⟨rfl, rfl, rfl⟩ ⟨rfl, rfl, rfl⟩ ⟨rfl, rfl, rfl⟩ ⟨rfl, rfl, rfl⟩ ⟨.inl rfl, rfl, rfl⟩ rfl J3 (by omega) (by omega) (by omega) (by omega) ld15 (eql_str Tryz.underlying9 b1 b2 _) (fun AJ4 J4 => ?_)
        refine chain_eql (N := 199) (S := 27) (T := 9) (T' := 9) (K := 16) (n := 158) (gs := 157) (gi := 26) (d7 := 164) (V1 := .string s1) (V2 := .string s2) (e := decide (s1 = s2)) ⟨rfl, rfl, rfl⟩ ⟨rfl, rfl, rfl⟩ ⟨rfl, rfl, rfl⟩ ⟨rfl, rfl, rfl⟩ ⟨rfl, rfl, rfl⟩ ⟨rfl, rfl, rfl⟩ ⟨.inl rfl, rfl, rfl⟩ rfl J4 (by omega) (by omega) (by omega) (by omega) ld16 (eql_str Tryz.underlying9 s1 s2 _) (fun AJ5 J5 => ?_)
        refine chain_eql (N := 199) (S := 27) (T := 9) (T' := 9) (K := 17) (n := 165) (gs := 164) (gi := 33) (d7 := 171) (V1 := .string v1) (V2 := .string v2) (e := decide (v1 = v2)) ⟨rfl, rfl, rfl⟩ ⟨rfl, rfl, rfl⟩ ⟨rfl, rfl, rfl⟩ ⟨rfl, rfl, rfl⟩ ⟨rfl, rfl, rfl⟩ ⟨rfl, rfl, rfl⟩ ⟨.inl rfl, rfl, rfl⟩ rfl J5 (by omega) (by omega) (by omega) (by omega) ld17 (eql_str Tryz.underlying9 v1 v2 _) (fun AJ6 J6 => ?_)
        refine chain_eql (N := 199) (S := 27) (T := 4) (T' := 4) (K := 18) (n := 172) (gs := 171) (gi := 40) (d7 := 178) (V1 := .bool n1) (V2 := .bool n2) (e := decide (n1 = n2)) ⟨rfl, rfl, rfl⟩ ⟨rfl, rfl, rfl⟩ ⟨rfl, rfl, rfl⟩ ⟨rfl, rfl, rfl⟩ ⟨rfl, rfl, rfl⟩ ⟨rfl, rfl, rfl⟩ ⟨.inl rfl, rfl, rfl⟩ rfl J6 (by omega) (by omega) (by omega) (by omega) ld18 (eql_bool Tryz.underlying4 n1 n2 _) (fun AJ7 J7 => ?_)
        refine chain_eql (N := 199) (S := 27) (T := 5) (T' := 5) (K := 19) (n := 179) (gs := 178) (gi := 47) (d7 := 185) (V1 := .int .u8 (z1 : Nat)) (V2 := .int .u8 (z2 : Nat)) (e := decide (z1 = z2)) ⟨rfl, rfl, rfl⟩ ⟨rfl, rfl, rfl⟩ ⟨rfl, rfl, rfl⟩ ⟨rfl, rfl, rfl⟩ ⟨rfl, rfl, rfl⟩ ⟨rfl, rfl, rfl⟩ ⟨.inl rfl, rfl, rfl⟩ rfl J7 (by omega) (by omega) (by omega) (by omega) ld19 (eql_nat Tryz.underlying5 z1 z2 _) (fun AJ8 J8 => ?_)
        refine chain_eql (N := 199) (S := 27) (T := 9) (T' := 9) (K := 20) (n := 186) (gs := 185) (gi := 54) (d7 := 192) (V1 := .string j1) (V2 := .string j2) (e := decide (j1 = j2)) ⟨rfl, rfl, rfl⟩ ⟨rfl, rfl, rfl⟩ ⟨rfl, rfl, rfl⟩ ⟨rfl, rfl, rfl⟩ ⟨rfl, rfl, rfl⟩ ⟨rfl, rfl, rfl⟩ ⟨.inl rfl, rfl, rfl⟩ rfl J8 (by omega) (by omega) (by omega) (by omega) ld20 (eql_str Tryz.underlying9 j1 j2 _) (fun AJ9 J9 => ?_)
        refine chain_eql (N := 199) (S := 27) (T := 9) (T' := 9) (K := 21) (n := 193) (gs := 192) (gi := 61) (d7 := 4) (V1 := .string x1) (V2 := .string x2) (e := decide (x1 = x2)) ⟨rfl, rfl, rfl⟩ ⟨rfl, rfl, rfl⟩ ⟨rfl, rfl, rfl⟩ ⟨rfl, rfl, rfl⟩ ⟨rfl, rfl, rfl⟩ ⟨rfl, rfl, rfl⟩ ⟨.inr rfl, rfl, rfl⟩ rfl J9 (by omega) (by omega) (by omega) (by omega) ld21 (eql_str Tryz.underlying9 x1 x2 _) (fun AJ10 J10 => ?_)
        refine wpList_nil ?_
        refine wp_ret_any ?_
        refine (show bodyPost Tryz.prog Tryz.f11 (fun e w' => e = Ending.returned (Value.bool R) ∧ Kept No w w') Exit.ret _ _ from ?_)
        refine bodyPost_ret (v := .bool (((((((((((decide (g1 = g2)) && decide (m1 = m2)) && decide (t1 = t2)) && decide (b1 = b2)) && decide (s1 = s2)) && decide (v1 = v2)) && decide (n1 = n2)) && decide (z1 = z2)) && decide (j1 = j2)) && decide (x1 = x2)))) ?_ J10.d ⟨?_, hk9⟩
        · rw [results_tmp rfl]
          simp [J10.g]
        · have hRe : R = (((((((((((decide (g1 = g2)) && decide (m1 = m2)) && decide (t1 = t2)) && decide (b1 = b2)) && decide (s1 = s2)) && decide (v1 = v2)) && decide (n1 = n2)) && decide (z1 = z2)) && decide (j1 = j2)) && decide (x1 = x2))) := by
            rw [← HR.out, Bool.eq_iff_iff]
            simp only [Pk.mk.injEq, Bool.and_eq_true, decide_eq_true_eq]
            simp at hb8
            have h1 := HFE.out
            have h2 := HQ.out
            have h3 := HWQ.out
            constructor
            · intro h; simp only [h, and_self]
            · intro h; simp only [h, hb8, h1, h2, h3, and_self]
          rw [hRe]

end Go.Proofs.YtjihgcdhheoniaaGreatDoor
