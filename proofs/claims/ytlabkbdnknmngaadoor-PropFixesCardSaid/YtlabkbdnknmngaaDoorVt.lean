/-
  Texts of few signs: plain, no program.
-/
import Derived.Test.YtlabkbdnknmngaaDoorNmR
import Derived.Test.YtlabkbdnknmngaaDoorJoinM
namespace Go.Proofs.YtlabkbdnknmngaaDoor
open Go.Lib
set_option linter.unusedVariables false
set_option linter.unusedSimpArgs false

/-- A sign: an ASCII one, or one of two bytes. -/
def Sg2 (p : List UInt8) : Prop := (∃ c : UInt8, p = [c] ∧ 0 < c.toNat ∧ c.toNat < 128) ∨ p = [195, 164]
theorem sg2_len {p : List UInt8} (h : Sg2 p) (r : List UInt8) : sgL (p ++ r) = p.length ∧ p ≠ [] := by
  rcases h with ⟨c, rfl, h1, h2⟩ | rfl
  · refine ⟨?_, by simp⟩
    rw [sgL_N _ (by simp)]
    have e : (([c] ++ r).getD 0 0) = c := rfl
    rw [e]
    unfold sgN
    rw [if_pos h2, if_neg (by omega)]
    rfl
  · refine ⟨?_, by simp⟩
    rw [sgL_N _ (by simp)]
    simp [sgN]
    try omega
theorem cnt2_cons {p : List UInt8} (h : Sg2 p) (r : List UInt8) : cnt (p ++ r) = (cnt r).map (· + 1) := by
  obtain ⟨h1, h2⟩ := sg2_len h r
  rw [cnt_good _ (by simp [h2]) (by rw [h1]; exact fun e => h2 (List.length_eq_zero_iff.1 e)), h1, List.drop_left]
theorem cnt2_flat : ∀ (ps : List (List UInt8)), (∀ p ∈ ps, Sg2 p) → cnt ps.flatten = some ps.length
  | [], _ => cnt_nil
  | p :: ps, h => by
    rw [List.flatten_cons, cnt2_cons (h p (by simp)), cnt2_flat ps (fun q hq => h q (by simp [hq]))]
    rfl
/-- Put together of signs. -/
def Vt (l : List UInt8) : Prop := ∃ ps : List (List UInt8), (∀ p ∈ ps, Sg2 p) ∧ l = ps.flatten
theorem Vt.nil : Vt [] := ⟨[], by simp, rfl⟩
theorem Vt.append {l m : List UInt8} (h : Vt l) (k : Vt m) : Vt (l ++ m) := by
  obtain ⟨ps, h1, rfl⟩ := h
  obtain ⟨qs, k1, rfl⟩ := k
  refine ⟨ps ++ qs, fun p hp => ?_, by simp⟩
  rcases List.mem_append.1 hp with h | h
  · exact h1 p h
  · exact k1 p h
theorem Vt.one {c : UInt8} (h1 : 0 < c.toNat) (h2 : c.toNat < 128) : Vt [c] := ⟨[[c]], by simp; exact .inl ⟨c, rfl, h1, h2⟩, rfl⟩
theorem Vt.cons {c : UInt8} {l : List UInt8} (h1 : 0 < c.toNat) (h2 : c.toNat < 128) (h : Vt l) : Vt (c :: l) := (Vt.one h1 h2).append h
theorem Vt.text {l : List UInt8} (h : Vt l) : isText l = true := by
  obtain ⟨ps, h1, rfl⟩ := h
  rw [isText_cnt, cnt2_flat ps h1]
  rfl
theorem Vt.ok {s : ByteArray} (h : Vt s.data.toList) (hs : s.size ≤ 65535) : okText s = true := by
  unfold okText
  rw [decide_eq_true hs, h.text]
  rfl
theorem wild_no {x : List UInt8} (h1 : 43 ∉ x) (h2 : 35 ∉ x) : wildL x = false := by
  unfold wildL
  simp [h1, h2]

end Go.Proofs.YtlabkbdnknmngaaDoor
