/-
  Tables as they lie; cut at a number.
-/
import Derived.Test.YtlgbljohhnhhkaaIdG
import Derived.Test.YtlgbljohhnhhkaaIdH
import Derived.Test.YtlgbljohhnhhkaaIdI
namespace Go.Proofs.Ytlgbljohhnhhkaa
open Go.RowKit
set_option linter.unusedVariables false
set_option linter.unusedSimpArgs false
set_option maxRecDepth 100000

/-- A table lies there. -/
structure Tb (w : World) (a : Option Addr) (c : Nat) (L : List Rw) : Prop where
  row : Row w a (RC L)
  nil : a = none → L.length = 0 ∧ c = 0
  cap : L.length ≤ c
theorem Tb.keptNo {w w' : World} {a : Option Addr} {c : Nat} {L : List Rw} (h : Tb w a c L) (hk : Kept No w w') : Tb w' a c L := ⟨h.row.keptNo hk, h.nil, h.cap⟩
theorem tb_nil (w : World) : Tb w none 0 [] := ⟨.nil _ _, fun _ => ⟨rfl, rfl⟩, Nat.le_refl _⟩
theorem own_cap {w : World} {base n c size : Nat} {e : TypeId} {a : Option Addr} {xs : List Value} (h : w.ownsRow base e size (.slice a n c) n xs) : n ≤ c := by
  rcases h.2 with ⟨hv, h0⟩ | ⟨g, cap, cur, hv, hg, hb, hn, hm, hs, hx⟩
  · injection hv with e1 e2 e3
    omega
  · injection hv with e1 e2 e3
    omega
theorem own_tb {w : World} {base c : Nat} {e : TypeId} {a : Option Addr} {L : List Rw} (h : w.ownsRow base e 3 (.slice a L.length c) L.length (RC L)) : Tb w a c L :=
  ⟨(own_row h).1, (own_row h).2, own_cap h⟩
/-- A call that answers a table, and an error. -/
def TabIs (R : List Rw × Int) (w : World) (e : Ending) (w' : World) : Prop :=
  ∃ a c, e = .returned (.tuple #[.slice a R.1.length c, .int .i64 R.2]) ∧ Tb w' a c R.1 ∧ Kept No w w'
theorem tabIs_of {R : List Rw × Int} {L : List Rw} {z : Int} {a : Option Addr} {c : Nat} {w w' : World} (h1 : R = (L, z)) (h2 : Tb w' a c L) (h3 : Kept No w w') : TabIs R w (.returned (.tuple #[.slice a L.length c, .int .i64 z])) w' := by
  subst h1
  exact ⟨a, c, rfl, h2, h3⟩
/-- Where what stands from A's end on lies. -/
def offA (a : Option Addr) (c n : Nat) : Option Addr := if c = n then a else a.map (·.add (n * 3))
theorem row_left {w : World} {a : Option Addr} {A B : List Rw} (h : Row w a (RC (A ++ B))) : Row w a (RC A) := by
  have := h.take (A.length * 3)
  rwa [RC_append, List.take_append_of_le_length (by rw [RC_length]; omega), List.take_of_length_le (by rw [RC_length]; omega)] at this
theorem row_right {w : World} {a : Option Addr} {c : Nat} {A B : List Rw} (h : Row w a (RC (A ++ B))) (hc : (A ++ B).length ≤ c) : Row w (offA a c A.length) (RC B) := by
  unfold offA
  by_cases hk : c = A.length
  · have : B = [] := List.length_eq_zero_iff.1 (by rw [List.length_append] at hc; omega)
    rw [this]
    exact .inl rfl
  · rw [if_neg hk]
    rcases h with h | ⟨b, off, ha, hb, hcl⟩
    · have h1 := congrArg List.length h
      rw [RC_length] at h1
      have : B = [] := List.length_eq_zero_iff.1 (by rw [List.length_append] at h1; simp at h1; omega)
      rw [this]
      exact .inl rfl
    · refine .inr ⟨b, off + A.length * 3, ?_, hb, fun j u hu => ?_⟩
      · rw [ha]
        simp [Addr.add]
      · have e := hcl (A.length * 3 + j) u (by rw [RC_append, List.getElem?_append_right (by rw [RC_length]; omega), RC_length]; rwa [show A.length * 3 + j - A.length * 3 = j by omega])
        rwa [← Nat.add_assoc] at e
theorem offA_none {a : Option Addr} {c n : Nat} (h : offA a c n = none) : a = none := by
  unfold offA at h
  split at h
  · exact h
  · simpa using h

theorem row_of_blk {w : World} {g : Nat} {t : TypeId} {cs : Array Value} (h : Blk w g t cs) : Row w (some ⟨g, 0, none⟩) cs.toList :=
  .inr ⟨g, 0, rfl, h.lt, fun j u hu => by rw [Nat.zero_add, h.cell]; simpa using hu⟩
theorem concat3 (a : Option Addr) (c : Nat) (A B : List Rw) (x : Rw) (g1 g2 N NB : Nat) (w : World) (hN : N = A.length) (hNB : NB = B.length)
    (h2 : Blk w g2 26 #[.slice a N c, .slice (some ⟨g1, 0, none⟩) 1 1, .slice (offA a c N) NB (c - N)]) (h1 : Row w (some ⟨g1, 0, none⟩) (RC [x]))
    (hA : Row w a (RC A)) (hB : Row w (offA a c A.length) (RC B)) (hnA : a = none → A.length = 0 ∧ c = 0) (hnB : offA a c A.length = none → B.length = 0 ∧ c - A.length = 0) (hlA : A.length ≤ 1000) (hlB : B.length ≤ 1000) :
    Calls Try.prog 25 #[.slice (some ⟨g2, 0, none⟩) 3 3] w (OwnR 55 w (A ++ x :: B)) := by
  subst hN hNB
  have h := iconcat_any (some ⟨g2, 0, none⟩) 3 [⟨a, c, A⟩, ⟨some ⟨g1, 0, none⟩, 1, [x]⟩, ⟨offA a c A.length, c - A.length, B⟩] w (row_of_blk h2) (fun p hp => by
    simp only [List.mem_cons, List.mem_nil_iff, or_false] at hp
    rcases hp with rfl | rfl | rfl
    · exact ⟨hA, hnA⟩
    · exact ⟨h1, fun h => by cases h⟩
    · exact ⟨hB, hnB⟩) (by simp [sumP]; omega) (by simp)
  have e : catP [⟨a, c, A⟩, ⟨some ⟨g1, 0, none⟩, 1, [x]⟩, ⟨offA a c A.length, c - A.length, B⟩] = A ++ x :: B := by simp [catP]
  rw [e] at h
  exact h
theorem concat2 (a a2 : Option Addr) (c c2 : Nat) (A B : List Rw) (g2 N NB : Nat) (w : World) (hN : N = A.length) (hNB : NB = B.length)
    (h2 : Blk w g2 26 #[.slice a N c, .slice a2 NB c2])
    (hA : Row w a (RC A)) (hB : Row w a2 (RC B)) (hnA : a = none → A.length = 0 ∧ c = 0) (hnB : a2 = none → B.length = 0 ∧ c2 = 0) (hlA : A.length ≤ 1000) (hlB : B.length ≤ 1000) :
    Calls Try.prog 25 #[.slice (some ⟨g2, 0, none⟩) 2 2] w (OwnR 55 w (A ++ B)) := by
  subst hN hNB
  have h := iconcat_any (some ⟨g2, 0, none⟩) 2 [⟨a, c, A⟩, ⟨a2, c2, B⟩] w (row_of_blk h2) (fun p hp => by
    simp only [List.mem_cons, List.mem_nil_iff, or_false] at hp
    rcases hp with rfl | rfl
    · exact ⟨hA, hnA⟩
    · exact ⟨hB, hnB⟩) (by simp [sumP]; omega) (by simp)
  have e : catP [⟨a, c, A⟩, ⟨a2, c2, B⟩] = A ++ B := by simp [catP]
  rw [e] at h
  exact h
/-- A row of one's own, one state of it set. -/
theorem own_set {w : World} {base : Nat} {e : TypeId} {g c : Nat} {A C : List Rw} {r : Rw} {n : Nat} (h : w.ownsRow base e 3 (.slice (some ⟨g, 0, none⟩) n c) n (RC (A ++ r :: C))) (s : Int) :
    (w.setCell ⟨g, A.length * 3 + 1, none⟩ (.int .i64 s)).ownsRow base e 3 (.slice (some ⟨g, 0, none⟩) n c) n (RC (A ++ ⟨r.id, s, r.n⟩ :: C)) := by
  obtain ⟨hl, hv | ⟨g', cap, cur, hv, hg, hb, hn, hm, hs, hx⟩⟩ := h
  · cases hv.1
  injection hv with e1 e2 e3
  injection e1 with e1
  injection e1 with e1
  subst e1 e3
  have hB : Blk w g e cur := hb
  have hlen : (RC (A ++ ⟨r.id, s, r.n⟩ :: C)).length = n * 3 := by rw [← hl, RC_length, RC_length]; simp
  refine ⟨hlen, .inr ⟨g, c, cur.setIfInBounds (A.length * 3 + 1) (.int .i64 s), rfl, hg, hB.set_ _ _, hn, hm, by simpa using hs, ?_⟩⟩
  have hAn : A.length * 3 + 1 < n * 3 := by rw [RC_length] at hlen; simp at hlen; omega
  rw [Array.toList_setIfInBounds, List.take_set, hx, RC_append, RC_append, RC_cons, RC_cons]
  rw [List.set_append_right _ _ (by rw [RC_length]; omega), RC_length, show A.length * 3 + 1 - A.length * 3 = 1 by omega]
  rfl

end Go.Proofs.Ytlgbljohhnhhkaa
