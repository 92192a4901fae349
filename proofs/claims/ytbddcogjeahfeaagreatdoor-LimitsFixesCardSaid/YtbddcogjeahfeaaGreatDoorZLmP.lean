import Derived.Test.YtbddcogjeahfeaaGreatDoorZLmA
import Derived.Test.YtbddcogjeahfeaaGreatDoorYFG
namespace Go.Proofs.YtbddcogjeahfeaaGreatDoor
open Go.RowKit
set_option linter.unusedVariables false
set_option linter.unusedSimpArgs false
set_option maxRecDepth 100000
def w16 (n : Nat) : Int := IntKind.u16.wrap n
def w8 (n : Nat) : Int := IntKind.u8.wrap n
def wI (n : Nat) : Int := IntKind.i64.wrap n
def stepL (l : Lm) (x : Pr) : Lm :=
 if x.id = 33 then { l with rc := w16 x.n } else if x.id = 34 then { l with al := w16 x.n } else if x.id = 39 then { l with sz := wI x.n } else
 if x.id = 36 then { l with q := w8 x.n } else if x.id = 37 then { l with rt := x.n != 0 } else if x.id = 40 then { l with wi := x.n != 0 } else
 if x.id = 41 then { l with nu := x.n != 0 } else if x.id = 42 then { l with sh := x.n != 0 } else l
def fldI (L : List Pr) (i : Nat) (f : Nat → Int) (d : Int) : Int := match getL L i with | none => d | some x => f x.n
def fldB (L : List Pr) (i : Nat) (d : Bool) : Bool := match getL L i with | none => d | some x => x.n != 0
def sayAll (d : Lm) (L : List Pr) : Lm := ⟨fldI L 33 w16 d.rc, fldI L 34 w16 d.al, fldI L 39 wI d.sz, fldI L 36 w8 d.q, fldB L 37 d.rt, fldB L 40 d.wi, fldB L 41 d.nu, fldB L 42 d.sh⟩
theorem often12 {k : Int} (hk : k = 1 ∨ k = 2) {i : Nat} (h : oftenB i k = true) : i = 38 := by
 unfold oftenB at h
 simp at h
 rcases h.2 with h | ⟨_, h⟩
 ·exact h
 ·omega
theorem chk_gt {k : Int} (hk : k = 1 ∨ k = 2) : ∀ (L : List Pr) (y : Nat), chkGo k (some y) L = true → ∀ p ∈ L, y < p.id ∨ (p.id = y ∧ y = 38)
 | [], _, _, p, hp => by cases hp
 | x :: t, y, h, p, hp => by
  unfold chkGo at h
  simp only [Bool.and_eq_true] at h
  obtain ⟨_, _, hf, ht⟩ := h
  have hx : y < x.id ∨ (x.id = y ∧ y = 38) := by
   unfold folB followsB at hf
   simp at hf
   rcases hf with hf | ⟨e, ho⟩
   ·exact .inl hf
   ·exact .inr ⟨by omega, by have := often12 hk ho; omega⟩
  rcases List.mem_cons.1 hp with rfl | hp
  ·exact hx
  ·rcases chk_gt hk t x.id ht p hp with h1 | ⟨h1, h2⟩ <;> omega
theorem getL_none {L : List Pr} {i : Nat} (h : ∀ p ∈ L, p.id ≠ i) : getL L i = none := by
 induction L with
 | nil => rfl
 | cons x t ih =>
  rw [getL, if_neg (h x (by simp))]
  exact ih fun p hp => h p (by simp [hp])
theorem fold_say {k : Int} (hk : k = 1 ∨ k = 2) : ∀ (L : List Pr) (o : Option Nat) (d : Lm), chkGo k o L = true → L.foldl stepL d = sayAll d L
 | [], _, _, _ => rfl
 | x :: t, o, d, h => by
  unfold chkGo at h
  simp only [Bool.and_eq_true] at h
  obtain ⟨_, _, _, ht⟩ := h
  have hg := chk_gt hk t x.id ht
  rw [List.foldl_cons, fold_say hk t (some x.id) _ ht]
  have no : x.id ≠ 38 → getL t x.id = none := fun h38 => getL_none fun p hp => by rcases hg p hp with h | ⟨h, h2⟩ <;> omega
  by_cases h33 : x.id = 33
  ·have n := no (by omega); rw [h33] at n
   simp [sayAll, fldI, fldB, stepL, h33, getL, n]
  by_cases h34 : x.id = 34
  ·have n := no (by omega); rw [h34] at n
   simp [sayAll, fldI, fldB, stepL, h34, getL, n]
  by_cases h39 : x.id = 39
  ·have n := no (by omega); rw [h39] at n
   simp [sayAll, fldI, fldB, stepL, h39, getL, n]
  by_cases h36 : x.id = 36
  ·have n := no (by omega); rw [h36] at n
   simp [sayAll, fldI, fldB, stepL, h36, getL, n]
  by_cases h37 : x.id = 37
  ·have n := no (by omega); rw [h37] at n
   simp [sayAll, fldI, fldB, stepL, h37, getL, n]
  by_cases h40 : x.id = 40
  ·have n := no (by omega); rw [h40] at n
   simp [sayAll, fldI, fldB, stepL, h40, getL, n]
  by_cases h41 : x.id = 41
  ·have n := no (by omega); rw [h41] at n
   simp [sayAll, fldI, fldB, stepL, h41, getL, n]
  by_cases h42 : x.id = 42
  ·have n := no (by omega); rw [h42] at n
   simp [sayAll, fldI, fldB, stepL, h42, getL, n]
  simp [sayAll, fldI, fldB, stepL, h33, h34, h39, h36, h37, h40, h41, h42, getL]
theorem chk_for {k : Int} : ∀ (L : List Pr) (o : Option Nat), chkGo k o L = true → ∀ p ∈ L, forB p.id k = true
 | [], _, _, p, hp => by cases hp
 | x :: t, o, h, p, hp => by
  unfold chkGo at h
  simp only [Bool.and_eq_true] at h
  obtain ⟨_, h1, _, ht⟩ := h
  rcases List.mem_cons.1 hp with rfl | hp
  ·exact h1
  ·exact chk_for t _ ht p hp
theorem num_fldI (L : List Pr) (i o : Nat) (f : Nat → Int) : f (numL L i o) = fldI L i f (f o) := by
 unfold numL fldI
 cases getL L i <;> rfl
theorem num_fldB (L : List Pr) (i o : Nat) : ((numL L i o) != 0) = fldB L i (o != 0) := by
 unfold numL fldB
 cases getL L i <;> rfl
def ofP (v : Int) (p : Pk) : Lm := if v = 5 ∧ (p.kind = 1 ∨ p.kind = 2) ∧ rightP v p = true then p.props.foldl stepL .std else .std
def three (L : List Pr) : Lm := ⟨w16 (numL L 33 65535), w16 (numL L 34 0), wI (numL L 39 268435460), 2, true, true, true, true⟩
def eight (L : List Pr) : Lm := ⟨w16 (numL L 33 65535), w16 (numL L 34 0), wI (numL L 39 268435460), w8 (numL L 36 2), numL L 37 1 != 0, numL L 40 1 != 0, numL L 41 1 != 0, numL L 42 1 != 0⟩
def ofD (v : Int) (p : Pk) : Lm := if v = 5 ∧ (p.kind = 1 ∨ p.kind = 2) ∧ rightD v p = true then (if p.kind = 2 then eight p.props else three p.props) else .std
theorem eight_all (L : List Pr) : eight L = sayAll .std L := by
 unfold eight sayAll
 rw [num_fldI L 33 _ w16, num_fldI L 34 _ w16, num_fldI L 39 _ wI, num_fldI L 36 _ w8, num_fldB, num_fldB, num_fldB, num_fldB]
 rfl
theorem rightP_chk {v : Int} {p : Pk} (h : rightD v p = true) : chkGo p.kind none p.props = true := by
 unfold rightD checkB at h
 simp only [Bool.and_eq_true] at h
 exact h.2.2.1.2.1.2.1
theorem no_one : ∀ i : Nat, (i = 36 ∨ i = 37 ∨ i = 40 ∨ i = 41 ∨ i = 42) → forB i 1 = false := by
 intro i h
 rcases h with rfl | rfl | rfl | rfl | rfl <;> decide +kernel
theorem three_all {L : List Pr} (h : chkGo 1 none L = true) : three L = sayAll .std L := by
 have n : ∀ i : Nat, (i = 36 ∨ i = 37 ∨ i = 40 ∨ i = 41 ∨ i = 42) → getL L i = none := fun i hi => getL_none fun p hp e => by
  have := chk_for L none h p hp
  rw [e, no_one i hi] at this
  cases this
 unfold three sayAll
 rw [num_fldI L 33 _ w16, num_fldI L 34 _ w16, num_fldI L 39 _ wI]
 simp [fldI, fldB, n, Lm.std]
 exact ⟨rfl, rfl, rfl⟩
theorem of_eq (v : Int) (p : Pk) (he : rightP v p = rightD v p) : ofP v p = ofD v p := by
 unfold ofP ofD
 rw [he]
 by_cases h : v = 5 ∧ (p.kind = 1 ∨ p.kind = 2) ∧ rightD v p = true
 ·rw [if_pos h, if_pos h]
  have hc := rightP_chk h.2.2
  rw [fold_say h.2.1 _ none _ hc]
  by_cases h2 : p.kind = 2
  ·rw [if_pos h2, eight_all]
  ·rw [if_neg h2]
   have h1 : p.kind = 1 := by have := h.2.1; omega
   rw [h1] at hc
   rw [three_all hc]
 ·rw [if_neg h, if_neg h]
end Go.Proofs.YtbddcogjeahfeaaGreatDoor
