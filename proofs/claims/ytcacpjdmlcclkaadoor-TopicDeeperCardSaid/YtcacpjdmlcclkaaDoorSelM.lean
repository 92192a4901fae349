/-
  Texts of few signs, levels put together again: plain, no program.
-/
import Derived.Test.YtcacpjdmlcclkaaDoorTopMt
import Derived.Test.YtcacpjdmlcclkaaDoorJoinM
namespace Go.Proofs.YtcacpjdmlcclkaaDoor
open Go.Lib
set_option linter.unusedVariables false
set_option linter.unusedSimpArgs false

/-- A sign: an ASCII one, or one of two bytes. -/
def Sg2 (p : List UInt8) : Prop := (∃ c : UInt8, p = [c] ∧ 0 < c.toNat ∧ c.toNat < 128) ∨ p = [195, 164]
theorem sg2_len {p : List UInt8} (h : Sg2 p) (r : List UInt8) : sgL (p ++ r) = p.length ∧ p ≠ [] := by
  rcases h with ⟨c, rfl, h1, h2⟩ | rfl
  · refine ⟨?_, by simp⟩
    rw [sgL_N _ (by simp)]
    have e : (([c] ++ r).getD 0 0) = c := rfl
    rw [e]
    unfold sgN
    rw [if_pos h2, if_neg (by omega)]
    rfl
  · refine ⟨?_, by simp⟩
    rw [sgL_N _ (by simp)]
    simp [sgN]
    try omega
theorem cnt2_cons {p : List UInt8} (h : Sg2 p) (r : List UInt8) : cnt (p ++ r) = (cnt r).map (· + 1) := by
  obtain ⟨h1, h2⟩ := sg2_len h r
  rw [cnt_good _ (by simp [h2]) (by rw [h1]; exact fun e => h2 (List.length_eq_zero_iff.1 e)), h1, List.drop_left]
theorem cnt2_flat : ∀ (ps : List (List UInt8)), (∀ p ∈ ps, Sg2 p) → cnt ps.flatten = some ps.length
  | [], _ => cnt_nil
  | p :: ps, h => by
    rw [List.flatten_cons, cnt2_cons (h p (by simp)), cnt2_flat ps (fun q hq => h q (by simp [hq]))]
    rfl
/-- Put together of signs. -/
def Vt (l : List UInt8) : Prop := ∃ ps : List (List UInt8), (∀ p ∈ ps, Sg2 p) ∧ l = ps.flatten
theorem Vt.nil : Vt [] := ⟨[], by simp, rfl⟩
theorem Vt.append {l m : List UInt8} (h : Vt l) (k : Vt m) : Vt (l ++ m) := by
  obtain ⟨ps, h1, rfl⟩ := h
  obtain ⟨qs, k1, rfl⟩ := k
  refine ⟨ps ++ qs, fun p hp => ?_, by simp⟩
  rcases List.mem_append.1 hp with h | h
  · exact h1 p h
  · exact k1 p h
theorem Vt.one {c : UInt8} (h1 : 0 < c.toNat) (h2 : c.toNat < 128) : Vt [c] := ⟨[[c]], by simp; exact .inl ⟨c, rfl, h1, h2⟩, rfl⟩
theorem Vt.cons {c : UInt8} {l : List UInt8} (h1 : 0 < c.toNat) (h2 : c.toNat < 128) (h : Vt l) : Vt (c :: l) := (Vt.one h1 h2).append h
theorem Vt.text {l : List UInt8} (h : Vt l) : isText l = true := by
  obtain ⟨ps, h1, rfl⟩ := h
  rw [isText_cnt, cnt2_flat ps h1]
  rfl
theorem Vt.ok {s : ByteArray} (h : Vt s.data.toList) (hs : s.size ≤ 65535) : okText s = true := by
  unfold okText
  rw [decide_eq_true hs, h.text]
  rfl
theorem vt_lev {l : List UInt8} (h : Vt l) : ∀ x ∈ lev l, Vt x := by
  obtain ⟨ps, h1, rfl⟩ := h
  induction ps with
  | nil => intro x hx; simp [lev] at hx; subst hx; exact Vt.nil
  | cons p ps ih =>
    have ih' := ih (fun q hq => h1 q (List.mem_cons_of_mem _ hq))
    intro x hx
    rw [List.flatten_cons] at hx
    have hne := lev_ne ps.flatten
    rcases h1 p (by simp) with ⟨c, rfl, c1, c2⟩ | rfl
    · rw [List.singleton_append, lev] at hx
      split at hx
      · rcases List.mem_cons.1 hx with rfl | hx
        · exact Vt.nil
        · exact ih' x hx
      · split at hx
        · rename_i e; exact absurd e hne
        · rename_i a r e
          rcases List.mem_cons.1 hx with rfl | hx
          · exact Vt.cons c1 c2 (ih' a (by rw [e]; simp))
          · exact ih' x (by rw [e]; simp [hx])
    · rw [show ([195, 164] : List UInt8) ++ ps.flatten = 195 :: 164 :: ps.flatten from rfl, lev, if_neg (by decide), lev, if_neg (by decide)] at hx
      cases e : lev ps.flatten with
      | nil => exact absurd e hne
      | cons a r =>
        rw [e] at hx
        simp only at hx
        rcases List.mem_cons.1 hx with rfl | hx
        · obtain ⟨qs, q1, q2⟩ := ih' a (by rw [e]; simp)
          exact ⟨[195, 164] :: qs, by simp; exact ⟨.inr rfl, q1⟩, by rw [List.flatten_cons, ← q2]; rfl⟩
        · exact ih' x (by rw [e]; simp [hx])
theorem lev_no47 (l : List UInt8) : ∀ x ∈ lev l, 47 ∉ x := by
  induction l with
  | nil => intro x hx; simp [lev] at hx; subst hx; simp
  | cons b t ih =>
    intro x hx
    rw [lev] at hx
    split at hx
    · rcases List.mem_cons.1 hx with rfl | hx
      · simp
      · exact ih x hx
    · rename_i hb
      split at hx
      · simp at hx; subst hx; simp; exact fun e => hb e.symm
      · rename_i a r e
        rcases List.mem_cons.1 hx with rfl | hx
        · have := ih a (by rw [e]; simp)
          simp [this]
          exact fun e => hb e.symm
        · exact ih x (by rw [e]; simp [hx])
theorem lev_sub (l : List UInt8) : ∀ x ∈ lev l, ∀ c ∈ x, c ∈ l := by
  induction l with
  | nil => intro x hx; simp [lev] at hx; subst hx; simp
  | cons b t ih =>
    intro x hx c hc
    rw [lev] at hx
    split at hx
    · rcases List.mem_cons.1 hx with rfl | hx
      · simp at hc
      · exact List.mem_cons_of_mem _ (ih x hx c hc)
    · split at hx
      · simp at hx; subst hx; simp at hc; simp [hc]
      · rename_i a r e
        rcases List.mem_cons.1 hx with rfl | hx
        · rcases List.mem_cons.1 hc with rfl | hc
          · simp
          · exact List.mem_cons_of_mem _ (ih a (by rw [e]; simp) c hc)
        · exact List.mem_cons_of_mem _ (ih x (by rw [e]; simp [hx]) c hc)
/-- Levels put together. -/
def joinL : List (List UInt8) → List UInt8
  | [] => []
  | [x] => x
  | x :: y :: r => x ++ 47 :: joinL (y :: r)
theorem lev_join : ∀ (M : List (List UInt8)), M ≠ [] → (∀ x ∈ M, 47 ∉ x) → lev (joinL M) = M
  | [], h, _ => absurd rfl h
  | [x], _, h => by rw [joinL, lev_none x (h x (by simp))]
  | x :: y :: r, _, h => by
    rw [joinL, lev_app x _ (h x (by simp)), lev_join (y :: r) (by simp) (fun z hz => h z (List.mem_cons_of_mem _ hz))]
theorem vt_join : ∀ (M : List (List UInt8)), (∀ x ∈ M, Vt x) → Vt (joinL M)
  | [], _ => Vt.nil
  | [x], h => h x (by simp)
  | x :: y :: r, h => by
    rw [joinL]
    exact (h x (by simp)).append (Vt.cons (by decide) (by decide) (vt_join (y :: r) (fun z hz => h z (List.mem_cons_of_mem _ hz))))
theorem join_snoc : ∀ (M : List (List UInt8)) (x : List UInt8), M ≠ [] → joinL (M ++ [x]) = joinL M ++ 47 :: x
  | [], _, h => absurd rfl h
  | [y], x, _ => rfl
  | y :: z :: r, x, _ => by
    rw [List.cons_append, List.cons_append, joinL, ← List.cons_append, join_snoc (z :: r) x (by simp), joinL]
    simp
theorem join_lev (l : List UInt8) : joinL (lev l) = l := by
  induction l with
  | nil => rfl
  | cons b t ih =>
    have hne := lev_ne t
    rw [lev]
    cases e : lev t with
    | nil => exact absurd e hne
    | cons a r =>
      rw [e] at ih
      split
      · rename_i hb
        rw [joinL, ih, hb]
        rfl
      · cases r with
        | nil => simp only [joinL] at ih ⊢; rw [ih]
        | cons a2 r2 => simp only [joinL] at ih ⊢; rw [List.cons_append, ih]
/-- Levels, each with a slash behind it. -/
def slashL (M : List (List UInt8)) : List UInt8 := M.flatMap fun x => x ++ [47]
theorem slash_join (M : List (List UInt8)) (z : List UInt8) : slashL M ++ z = joinL (M ++ [z]) := by
  induction M with
  | nil => simp [slashL, joinL]
  | cons x M ih =>
    rw [show slashL (x :: M) = x ++ [47] ++ slashL M from rfl, List.append_assoc, ih]
    cases M with
    | nil => simp [joinL]
    | cons y r => simp [joinL]
theorem covers_self (L : List (List UInt8)) : coversL L L = true := by
  induction L with
  | nil => rfl
  | cons x r ih =>
    by_cases h : x = [35]
    · subst h; exact covers_rest _ _
    · rw [covers_step h, ih]; simp
theorem covers_plus (L : List (List UInt8)) (k : Nat) (h : k < L.length) : coversL (L.set k [43]) L = true := by
  induction L generalizing k with
  | nil => simp at h
  | cons x r ih =>
    cases k with
    | zero => rw [List.set_cons_zero, covers_step (by decide), covers_self]; simp
    | succ k =>
      rw [List.set_cons_succ]
      by_cases hx : x = [35]
      · subst hx; exact covers_rest _ _
      · rw [covers_step hx, ih k (by simpa using h)]; simp
theorem covers_hash (L : List (List UInt8)) (k : Nat) : coversL (L.take k ++ [[35]]) L = true := by
  induction L generalizing k with
  | nil => simp [covers_rest]
  | cons x r ih =>
    cases k with
    | zero => exact covers_rest _ _
    | succ k =>
      rw [List.take_succ_cons, List.cons_append]
      by_cases hx : x = [35]
      · subst hx; exact covers_rest _ _
      · rw [covers_step hx, ih k]; simp
theorem wild_no {x : List UInt8} (h1 : 43 ∉ x) (h2 : 35 ∉ x) : wildL x = false := by
  unfold wildL
  simp [h1, h2]
theorem okLev_all : ∀ (M : List (List UInt8)), (∀ x ∈ M, wildL x = false ∨ x = [43]) → okLev M = true
  | [], _ => rfl
  | x :: r, h => by
    rw [okLev_cons', okLev_all r (fun y hy => h y (List.mem_cons_of_mem _ hy))]
    rcases h x (by simp) with h | h
    · rw [h]; rfl
    · rw [h]; rfl
where okLev_cons' {x : List UInt8} {r : List (List UInt8)} : okLev (x :: r) = ((!wildL x || (x == [43] || (x == [35] && r.isEmpty))) && okLev r) := rfl
theorem okLev_hash : ∀ (M : List (List UInt8)), (∀ x ∈ M, wildL x = false ∨ x = [43]) → okLev (M ++ [[35]]) = true
  | [], _ => rfl
  | x :: r, h => by
    have ih := okLev_hash r (fun y hy => h y (List.mem_cons_of_mem _ hy))
    rw [List.cons_append]
    show ((!wildL x || (x == [43] || (x == [35] && (r ++ [[35]]).isEmpty))) && okLev (r ++ [[35]])) = true
    rw [ih]
    rcases h x (by simp) with h | h
    · rw [h]; rfl
    · rw [h]; rfl
theorem share_first {c : UInt8} {l : List UInt8} (h : c ≠ 36) : isShare (c :: l) = false := by
  unfold isShare shareW
  simp [List.isPrefixOf]
  exact fun e => absurd e.symm h

end Go.Proofs.YtcacpjdmlcclkaaDoor
