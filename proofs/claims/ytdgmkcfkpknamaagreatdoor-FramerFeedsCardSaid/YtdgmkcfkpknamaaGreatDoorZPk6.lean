/-
  How long what is decoded is, plain (drawn out of older texts).
-/
import Derived.Test.YtdgmkcfkpknamaaGreatDoorYI5
namespace Go.Proofs.YtdgmkcfkpknamaaGreatDoor
open Go.RowKit
set_option linter.unusedVariables false
set_option linter.unusedSimpArgs false
set_option maxRecDepth 100000
theorem filt_len (k : Int) (n : Nat) (S : Ts) : (filtK k n S).1.length ≤ n := (filt_ok k n S).1
theorem conn_fi (v : Int) (S : Ts) : (connK v S).1.filters = [] := by
  unfold connK passK userK willK
  dsimp only
  repeat' split
  all_goals rfl
theorem short_fi (v : Int) (p : Pk) (S : Ts) : (shortK v p S).1.filters = p.filters := by
  unfold shortK
  repeat' split
  all_goals rfl
theorem fields_fi (v k : Int) (f : Nat) (S : Ts) : (fieldsK v k f S).1.filters.length ≤ S.l.length := by
  unfold fieldsK
  split
  · rw [conn_fi]; exact Nat.zero_le _
  split
  · exact Nat.zero_le _
  split
  · exact Nat.zero_le _
  split
  · rw [short_fi]; exact Nat.zero_le _
  split
  · exact Nat.le_trans (filt_len k _ _) (Nat.le_trans (rdS_le _ _) (rd_le _ _))
  split
  · exact Nat.zero_le _
  split
  · rw [short_fi]; exact Nat.zero_le _
  · exact Nat.zero_le _
theorem filtersN_le9 (k : Int) : ∀ (L : List Fi), (∀ f ∈ L, f.text.size ≤ 100000) → filtersN k L ≤ L.length * 100003
  | [], _ => by simp [filtersN]
  | f :: L, h => by
    have h1 := filtersN_le9 k L (fun g hg => h g (List.mem_cons_of_mem _ hg))
    have h2 := h f (List.mem_cons_self ..)
    simp only [filtersN, List.length_cons]
    split <;> omega
theorem secN_ok {v : Int} {L : List Pr} (h : Lok L) : secN v L ≤ 100001 := by
  have := h.s
  unfold secN
  split <;> omega
theorem rest9 {v : Int} {l : List UInt8} (hl : l.length ≤ 2400) : restN v (formP v l) ≤ 268435455 := by
  have h := ok9_form (v := v) (l := l) (by omega)
  have hf : (formP v l).filters.length ≤ 2400 := by
    unfold formP
    split
    · refine Nat.le_trans (fields_fi _ _ _ _) ?_
      simp only [List.length_drop]
      omega
    · exact Nat.zero_le _
  generalize formP v l = p at *
  have s1 := secN_ok (v := v) h.props
  have s2 := secN_ok (v := v) h.wprops
  have h1 := h.client; have h2 := h.willTopic; have h3 := h.willLoad; have h4 := h.user; have h5 := h.pass; have h6 := h.topic; have h7 := h.load; have h9 := h.nc
  have hF := filtersN_le9 p.kind p.filters (fun f hf => (h.tf f hf).2)
  have hS : shortN v p ≤ 100002 := by unfold shortN; (repeat' split) <;> omega
  have hC : connectN v p ≤ 2000000 := by unfold connectN; (repeat' split) <;> omega
  unfold restN
  repeat' split
  all_goals omega
end Go.Proofs.YtdgmkcfkpknamaaGreatDoor
