/-
  pouchref09.Decode, pouchref10.Parse, walked.
-/
import Derived.Test.YtdgmkcfkpknamaaGreatDoorZRr4
import Derived.Test.YtdgmkcfkpknamaaGreatDoorYI4
import Derived.Test.YtdgmkcfkpknamaaGreatDoorZPk6
import Derived.Test.YtdgmkcfkpknamaaGreatDoorYI3
namespace Go.Proofs.YtdgmkcfkpknamaaGreatDoor
open Go.RowKit
set_option linter.unusedVariables false
set_option linter.unusedSimpArgs false
set_option maxRecDepth 100000
set_option maxHeartbeats 8000000
theorem own_ca {p : Pk} {s : Sl} (h : s.ca = none → s.cc = 0) : (ownSl p s).ca = none → (ownSl p s).cc = 0 := by
  unfold ownSl
  repeat' split
  all_goals first | exact fun _ => rfl | exact h
section
variable {c : World} {v : Int}
theorem tn_rDecode (hT : Tabs c) {n : Nat} {a : Option Addr} {l : List UInt8} (hr : Row c a (B8 l)) (hn : a = none → n = 0) (hl : l.length ≤ n) (h5 : l.length ≤ 2400) : Tn Tryz.prog 35 [.int .i64 v, .slice a l.length n] c (fun x : Sl => .tuple #[(decP v l).val x, .int .i64 (decE v l)]) (fun x c' => (decP v l).At x c' ∧ (x.ca = none → x.cc = 0) ∧ Pn c (decP v l) x) := by
  refine Tn.in Tryz.func35 ?_
  refine go ?_
  refine vA fun b1 => ?_
  by_cases hv : v = 4 ∨ v = 5
  case neg =>
    have e : decE v l = 1 := if_neg hv
    have e2 : decP v l = zk 0 := if_neg (by rw [e]; decide)
    rw [e, e2]
    have h4 : ¬ v = 4 := fun q => hv (.inl q)
    have h5 : ¬ v = 5 := fun q => hv (.inr q)
    refine go ?_
    exact vrn2 (sl0, c) ⟨Le.refl c, at0 0 c, fun _ => rfl, .zk _ _ _⟩
  have c2 := tn_rForm (v := v) hT hr hn hl (by omega)
  have hv9 := hv
  rcases hv with hv | hv
  all_goals
    refine go ?_
    refine vtn c2 fun x c' h1 h2 => ?_
    refine go ?_
    refine vA fun b2 => ?_
    cases hO : formOk v l with
    | false =>
      have e : decE v l = 3 := (if_pos hv9).trans (if_neg (by rw [hO]; decide))
      have e2 : decP v l = zk 0 := if_neg (by rw [e]; decide)
      rw [e, e2]
      refine go ?_
      exact vrn2 (sl0, c') ⟨h1, at0 0 c', fun _ => rfl, .zk _ _ _⟩
    | true =>
      have hF := fit_form (v := v) (by omega) hO
      have c3 := ck_rRight (c := c') v (formP v l) x h2.1 hF (ck_rSame _ _ _ _ h2.1 (ownSl_at h2.1) hF.few (bare_few hF.few) h2.2.1 (own_ca h2.2.1))
      rw [← right_eq v (formP v l) (fun f hf => ((ok9_form (by omega)).tf f hf).1) (rest9 (by omega))] at c3
      cases hR : rightP v (formP v l) with
      | false =>
        have e : decE v l = 4 := (if_pos hv9).trans ((if_pos hO).trans (if_neg (by rw [hR]; decide)))
        have e2 : decP v l = zk 0 := if_neg (by rw [e]; decide)
        rw [hR] at c3
        rw [e, e2]
        refine go ?_
        exact vrn2 (sl0, c') ⟨h1, at0 0 c', fun _ => rfl, .zk _ _ _⟩
      | true =>
        have e : decE v l = 0 := (if_pos hv9).trans ((if_pos hO).trans (if_pos hR))
        have e2 : decP v l = formP v l := if_pos e
        rw [hR] at c3
        rw [e, e2]
        refine go ?_
        exact vrn2 (x, c') ⟨h1, h2⟩
theorem decE_ne2 {v : Int} {l : List UInt8} : decE v l ≠ 2 := by grind [decE]
structure PsX where
  L : List RIt
  oa : Option Addr
  oc : Nat
  n : Nat
  fst : Bool
  la : Option Addr
  lc : Nat
  l : List UInt8
  c : World
/-- The loop's rounds so far. -/
structure Rp9 (v m : Int) (N : Nat) (F : Bool) (l0 : List UInt8) (L : List RIt) (n : Nat) (fst : Bool) (l : List UInt8) : Prop where
  f : feedG v m N F l0 = (L.map RIt.pb ++ (feedG v m n fst l).1, (feedG v m n fst l).2)
  n : l.length ≤ n
  s : fst = (F && L.isEmpty)
theorem Rp9.go {v m : Int} {N n : Nat} {F fst : Bool} {l0 l : List UInt8} {L : List RIt} {x : RIt} (h : Rp9 v m N F l0 L n fst l) (h0 : nextE v m fst l = 0) (hp : x.pb = (decP v (l.take (nextN l)), l.take (nextN l))) : Rp9 v m N F l0 (L ++ [x]) (n - 1) false (l.drop (nextN l)) := by
  have h1 := nextN_lt h0
  have h2 := h.n
  obtain ⟨k, rfl⟩ : ∃ k, n = k + 1 := ⟨n - 1, by omega⟩
  refine ⟨?_, by simp only [List.length_drop]; omega, by simp⟩
  rw [h.f, feedG_go h0, Nat.add_sub_cancel, List.map_append, List.append_assoc, List.map_singleton, hp]
  rfl
theorem tn_Parse (hT : Tabs c) {m : Int} {F : Bool} {n : Nat} {a : Option Addr} {l : List UInt8} (hr : Row c a (B8 l)) (hn : a = none → n = 0) (hl : l.length ≤ n) (h5 : l.length ≤ 100000) (hm : m ≤ 2400) : Tn Tryz.prog 25 [.int .i64 v, .int .i64 m, .bool F, .slice a l.length n] c (fun x : List RIt × Option Addr × Nat => .tuple #[.slice x.2.1 x.1.length x.2.2, .int .i64 (feedG v m l.length F l).2.2, .int .i64 (feedG v m l.length F l).2.1.length]) (fun x c' => x.1.map RIt.pb = (feedG v m l.length F l).1 ∧ (∀ y ∈ x.1, y.At c' ∧ Pn c y.p y.s) ∧ Own9 c' 77 x.2.1 x.1.length x.2.2 (RC x.1) ∧ Nw c x.2.1 (RC x.1)) := by
  refine Tn.in Tryz.func25 ?_
  refine gor ?_
  refine vrg ?_
  refine gor ?_
  refine vrg ?_
  refine gor ?_
  refine CG.nilr 77 26 ?_
  refine vlo (fun x : PsX => [(0, .int .i64 v), (1, .int .i64 m), (2, .bool F), (3, .slice x.la x.l.length x.lc), (11, .slice x.oa x.L.length x.oc)]) (fun x => x.c) (fun _ => []) (fun x => [⟨77, 26, .slice x.oa x.L.length x.oc, x.L.length, RC x.L⟩]) (fun x => Le c x.c ∧ Rp9 v m l.length F l x.L x.n x.fst x.l ∧ (∀ y ∈ x.L, y.At x.c ∧ Pn c y.p y.s) ∧ Row x.c x.la (B8 x.l) ∧ (x.la = none → x.lc = 0) ∧ x.l.length ≤ x.lc ∧ x.l.length ≤ 100000 ∧ x.L.length + x.l.length ≤ 100000) (fun x => x.l.length) ⟨[], none, 0, l.length, F, a, n, l, c⟩ ⟨Le.refl c, ⟨rfl, Nat.le_refl _, by simp⟩, by simp, hr, hn, hl, h5, by simpa using h5⟩ fun x ⟨x1, x2, x3, x4, x5, x6, x7, x8⟩ => ?_
  have c1 := ck_rHead x4 x5 (by omega)
  have f2 := hd_head x.l
  have f3 := hd_rest x.l
  have fin : ∀ e, nextE v m x.fst x.l = e → e ≠ 0 → feedG v m l.length F l = (x.L.map RIt.pb, if e = 2 then (x.l, 0) else ([], e)) := fun e h h0 => by
    rw [x2.f, feedG_no (by rw [h]; exact h0) x2.n, h]
    split <;> simp
  refine go ?_
  refine vA fun b12 => ?_
  by_cases h1 : headE x.l = 0
  case neg =>
    have e9 : nextE v m x.fst x.l = headE x.l := if_pos h1
    rw [fin _ e9 h1]
    by_cases h2 : headE x.l = 2
    · rw [h2, if_pos rfl]
      refine go ?_
      refine veo fun c' l9 o9 nw => ?_
      exact vrn3 ((x.L, x.oa, x.oc), c') ⟨x1.trans l9, rfl, fun y hy => ⟨(x3 y hy).1.le l9, (x3 y hy).2⟩, o9, nw.le x1⟩
    · rw [if_neg h2]
      refine go ?_
      refine veo fun c' l9 o9 nw => ?_
      exact vrn3 ((x.L, x.oa, x.oc), c') ⟨x1.trans l9, rfl, fun y hy => ⟨(x3 y hy).1.le l9, (x3 y hy).2⟩, o9, nw.le x1⟩
  by_cases h2 : m < (headB x.l).head + ((headB x.l).rest : Int)
  · have e9 : nextE v m x.fst x.l = 5 := (if_neg (fun q => q h1)).trans (if_pos h2)
    rw [fin _ e9 (by decide), if_neg (by decide)]
    refine go ?_
    refine veo fun c' l9 o9 nw => ?_
    exact vrn3 ((x.L, x.oa, x.oc), c') ⟨x1.trans l9, rfl, fun y hy => ⟨(x3 y hy).1.le l9, (x3 y hy).2⟩, o9, nw.le x1⟩
  have h2' : ¬ (headB x.l).head + ((headB x.l).rest : Int) > m := h2
  by_cases h3 : x.fst = true ∧ (headB x.l).kind ≠ 1
  · have e9 : nextE v m x.fst x.l = 6 := (if_neg (fun q => q h1)).trans ((if_neg h2).trans (if_pos h3))
    rw [fin _ e9 (by decide), if_neg (by decide)]
    obtain ⟨h3, h4⟩ := h3
    rw [x2.s, Bool.and_eq_true] at h3
    obtain ⟨rfl, h3⟩ := h3
    have h5 : ((x.L.length : Nat) : Int) = 0 := by have := List.isEmpty_iff.1 h3; rw [this]; rfl
    refine go ?_
    refine veo fun c' l9 o9 nw => ?_
    exact vrn3 ((x.L, x.oa, x.oc), c') ⟨x1.trans l9, rfl, fun y hy => ⟨(x3 y hy).1.le l9, (x3 y hy).2⟩, o9, nw.le x1⟩
  refine gor ?_
  refine vrg ?_
  refine gor ?_
  refine vrg ?_
  refine gor ?_
  refine vrg ?_
  refine gor ?_
  refine vck (fun _ => [(0, .int .i64 v), (1, .int .i64 m), (2, .bool F), (3, .slice x.la x.l.length x.lc), (11, .slice x.oa x.L.length x.oc), (12, pt b12), (47, .bool false)]) (fun _ => x.c) (fun _ : Unit => [⟨b12, 125, [.int .i64 (headB x.l).kind, .int .u8 (headB x.l).flags, .int .i64 (headB x.l).head, .int .i64 (headB x.l).rest]⟩]) (fun _ => [⟨77, 26, .slice x.oa x.L.length x.oc, x.L.length, RC x.L⟩]) (fun _ => True) ?_ fun _ _ => ?_
  · cases F with
    | false =>
      refine go ?_
      exact vj () trivial
    | true =>
      by_cases h4 : x.L.length = 0
      · have h5 : x.fst = true := by rw [x2.s, List.length_eq_zero_iff.1 h4]; rfl
        have h6 : (headB x.l).kind = 1 := Classical.byContradiction fun q => h3 ⟨h5, q⟩
        refine go ?_
        rw [decide_eq_true h6]
        exact vj () trivial
      · refine go ?_
        exact vj () trivial
  have eN : (headB x.l).head + ((headB x.l).rest : Int) = (nextN x.l : Int) := by unfold nextN; omega
  by_cases h4 : (x.l.length : Int) < (headB x.l).head + ((headB x.l).rest : Int)
  · have e9 : nextE v m x.fst x.l = 2 := (if_neg (fun q => q h1)).trans ((if_neg h2).trans ((if_neg h3).trans (if_pos h4)))
    rw [fin _ e9 (by decide), if_pos rfl]
    refine go ?_
    refine veo fun c' l9 o9 nw => ?_
    exact vrn3 ((x.L, x.oa, x.oc), c') ⟨x1.trans l9, rfl, fun y hy => ⟨(x3 y hy).1.le l9, (x3 y hy).2⟩, o9, nw.le x1⟩
  have e9 : nextE v m x.fst x.l = decE v (x.l.take (nextN x.l)) := (if_neg (fun q => q h1)).trans ((if_neg h2).trans ((if_neg h3).trans (if_neg h4)))
  have eL : nextN x.l = (x.l.take (nextN x.l)).length := by rw [List.length_take]; omega
  have eT : ((headB x.l).head + ((headB x.l).rest : Int)).toNat = nextN x.l := by rw [eN]; rfl
  refine go ?_
  refine vslt fun a' g1 g2 => ?_
  rw [eT] at g1
  refine vle (v' := .slice a' (x.l.take (nextN x.l)).length x.lc) (by rw [eT, ← eL]) ?_
  have d1 := tn_rDecode (v := v) (hT.le x1) g1 g2 (by rw [← eL]; omega) (by rw [← eL]; omega)
  by_cases h7 : decE v (x.l.take (nextN x.l)) = 0
  case neg =>
    rw [fin _ e9 h7, if_neg decE_ne2]
    refine vtn d1 fun y c' k1 k2 => ?_
    refine go ?_
    refine vA fun b14 => ?_
    refine go ?_
    refine veo fun c2 l9 o9 nw => ?_
    exact vrn3 ((x.L, x.oa, x.oc), c2) ⟨(x1.trans k1).trans l9, rfl, fun y hy => ⟨(x3 y hy).1.le (k1.trans l9), (x3 y hy).2⟩, o9, nw.le (x1.trans k1)⟩
  rw [h7] at d1
  refine vtn d1 fun y c' k1 k2 => ?_
  refine go ?_
  refine vA fun b14 => ?_
  refine go ?_
  refine vh [0, 1] ?_
  repeat' first | refine go ?_ | refine vqx 0 ?_ | fail
  refine vqst 0 (a := x.la) (l := x.l) (fun a2 k3 k4 => ?_) (hr := x4.le k1)
  rw [eT] at k3
  refine vqe (v' := .slice a2 (x.l.take (nextN x.l)).length x.lc) (by rw [eT, ← eL]) ?_
  refine go ?_
  refine vqbu 0 ?_
  refine vqA fun b15 => ?_
  refine vqgb fun a3 c3 => ?_
  refine go ?_
  refine vslf (hr := x4.le k1) fun a4 k5 k6 => ?_
  rw [eT, List.take_of_length_le (by rw [List.length_drop]; exact Nat.le_refl _)] at k5
  rw [eT] at k6 ⊢
  rw [← List.length_drop]
  refine go ?_
  have h0 : nextE v m x.fst x.l = 0 := e9.trans h7
  have hN := nextN_lt h0
  have e1 : x.L.length + 1 = (x.L ++ [(⟨decP v (x.l.take (nextN x.l)), y, x.l.take (nextN x.l)⟩ : RIt)]).length := by simp
  refine ved (ved (ved (vj ⟨x.L ++ [⟨decP v (x.l.take (nextN x.l)), y, x.l.take (nextN x.l)⟩], a3, c3, x.n - 1, false, a4, x.lc - nextN x.l, x.l.drop (nextN x.l), c'⟩ ⟨x1.trans k1, x2.go h0 rfl, ?_, k5, k6, ?_, ?_, ?_⟩ (hμ := ?_) (hL := ?_) (hR := ?_))))
  all_goals dsimp only
  · intro z hz
    rcases List.mem_append.1 hz with hz | hz
    · exact ⟨(x3 z hz).1.le k1, (x3 z hz).2⟩
    · rw [List.mem_singleton.1 hz]
      exact ⟨⟨k2.1, k2.2.1⟩, k2.2.2.le x1⟩
  · rw [List.length_drop]; omega
  · rw [List.length_drop]; omega
  · rw [List.length_drop, ← e1]; omega
  · rw [List.length_drop]; omega
  · rw [← e1]
    repeat' (first | exact trivial | refine ⟨rfl, ?_⟩)
  · rw [RC_add, ← e1]
    rfl
end
end Go.Proofs.YtdgmkcfkpknamaaGreatDoor
