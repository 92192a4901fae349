/-
  What TopicDeeper asks, as facts of plain lists.
-/
import Derived.Test.YtcacpjdmlcclkaaDoorFfix
namespace Go.Proofs.YtcacpjdmlcclkaaDoor
open Go.RowKit
set_option linter.unusedVariables false
set_option linter.unusedSimpArgs false

theorem covers_snoc (a b : List UInt8) (ha : ¬ a = [35]) : ∀ (M N : List (List UInt8)), (∀ m ∈ M, ¬ m = [35]) →
    coversL (M ++ [a]) (N ++ [b]) = (coversL M N && (decide (a = [43]) || decide (a = b)))
  | [], [], _ => by simp [coversL, ha]
  | [], n :: t, _ => by
    rw [List.nil_append, List.cons_append, covers_step ha]
    have : coversL [] (t ++ [b]) = false := by
      unfold coversL
      cases t <;> rfl
    rw [this]
    simp [coversL]
  | m :: r, [], h => by
    have hm := h m (by simp)
    rw [List.cons_append, List.nil_append, covers_step hm, covers_end hm]
    have : coversL (r ++ [a]) [] = false := by
      cases r with
      | nil => exact covers_end ha []
      | cons x r => exact covers_end (h x (by simp)) _
    rw [this]
    simp
  | m :: r, n :: t, h => by
    have hm := h m (by simp)
    rw [List.cons_append, List.cons_append, covers_step hm, covers_step hm, covers_snoc a b ha r t (fun x hx => h x (List.mem_cons_of_mem _ hx)), Bool.and_assoc]
theorem covers_more (K : List (List UInt8)) : ∀ (M N : List (List UInt8)), (∀ m ∈ M, ¬ m = [35]) → coversL M N = true → coversL (M ++ [[35]]) (N ++ K) = true
  | [], [], _, _ => covers_rest _ _
  | [], n :: t, _, h => by simp [coversL] at h
  | m :: r, [], h, hc => by rw [covers_end (h m (by simp))] at hc; cases hc
  | m :: r, n :: t, h, hc => by
    have hm := h m (by simp)
    rw [covers_step hm] at hc
    rw [List.cons_append, List.cons_append, covers_step hm]
    simp only [Bool.and_eq_true] at hc ⊢
    exact ⟨hc.1, covers_more K r t (fun x hx => h x (List.mem_cons_of_mem _ hx)) hc.2⟩

/-- Levels that may stand in a filter of these. -/
structure Lv (x : List UInt8) : Prop where
  vt : Vt x
  no47 : 47 ∉ x
  no36 : 36 ∉ x
  short : x.length ≤ 1
theorem lv_fsg (j : Nat) : Lv (fsg j) ∧ (wildL (fsg j) = false ∨ fsg j = [43]) ∧ ¬ fsg j = [35] := by
  unfold fsg
  split
  all_goals refine ⟨⟨?_, by decide, by decide, by decide⟩, by decide, by decide⟩
  all_goals first | exact Vt.nil | exact Vt.one (by decide) (by decide)
theorem lv_one {c : UInt8} (h1 : 0 < c.toNat) (h2 : c.toNat < 128) (h3 : c ≠ 47) (h4 : c ≠ 36) : Lv [c] := ⟨Vt.one h1 h2, by simp; exact fun e => h3 e.symm, by simp; exact fun e => h4 e.symm, by simp⟩
theorem fM_lv (l : List UInt8) : ∀ x ∈ fM l, Lv x ∧ (wildL x = false ∨ x = [43]) ∧ ¬ x = [35] := by
  intro x hx
  rcases fM_in l 6 x hx with rfl | ⟨j, rfl⟩
  · exact ⟨lv_one (by decide) (by decide) (by decide) (by decide), .inl (by decide), by decide⟩
  · exact lv_fsg j
theorem fM_len (l : List UInt8) : (fM l).length ≤ 7 := by
  unfold fM
  rw [List.length_cons, List.length_map]
  have := List.length_take_le 6 l
  omega
/-- The word of a share, or nothing. -/
def preL (b : Bool) : List UInt8 := if b then [36, 115, 104, 97, 114, 101, 47, 103, 47] else []
/-- A filter put together of levels, as a share or not. -/
theorem filter_made (b : Bool) {f : ByteArray} {M : List (List UInt8)} (hf : f.data.toList = preL b ++ joinL M) (hM : M ≠ []) (hl : ∀ x ∈ M, Lv x) (hn : M.length ≤ 9) (hok : okLev M = true) (hne : joinL M ≠ []) :
    filterB f = true ∧ ofL f.data.toList = joinL M ∧ lev (joinL M) = M := by
  have hlev := lev_join M hM (fun x hx => (hl x hx).no47)
  have hvt := vt_join M (fun x hx => (hl x hx).vt)
  have hlen := join_len M 1 (fun x hx => (hl x hx).short)
  have h36 : 36 ∉ joinL M := by
    intro hm
    rcases in_join M 36 hm with h | ⟨x, hx, hc⟩
    · exact absurd h (by decide)
    · exact (hl x hx).no36 hc
  have hp : plainL (joinL M) = true := plain_of hne (by rw [hlev]; exact hok)
  have hsz : f.size ≤ 65535 := by
    rw [← sz_list, hf, List.length_append]
    have : (preL b).length ≤ 9 := by cases b <;> decide
    omega
  cases b with
  | false =>
    have hf' : f.data.toList = joinL M := by rw [hf]; rfl
    obtain ⟨f1, f2⟩ := filter_plain (f := f) (by rw [hf']; exact hvt) hsz (by rw [hf']; exact (no36 h36).1) (by rw [hf']; exact hp)
    exact ⟨f1, by rw [f2, hf'], hlev⟩
  | true =>
    have hf' : f.data.toList = [36, 115, 104, 97, 114, 101, 47, 103, 47] ++ joinL M := by rw [hf]; rfl
    have e : behind ([36, 115, 104, 97, 114, 101, 47, 103, 47] ++ joinL M) = [103] ++ 47 :: joinL M := rfl
    have s1 : isShare ([36, 115, 104, 97, 114, 101, 47, 103, 47] ++ joinL M) = true := by unfold isShare shareW; simp [List.isPrefixOf]
    have s2 := (who_app [103] (joinL M) (by decide)).1
    have s3 := (who_app [103] (joinL M) (by decide)).2
    rw [← e] at s2 s3
    have hv : Vt f.data.toList := by
      rw [hf']
      refine Vt.append ⟨[[36], [115], [104], [97], [114], [101], [47], [103], [47]], ?_, rfl⟩ hvt
      intro p hp
      refine .inl ?_
      simp at hp
      rcases hp with rfl | rfl | rfl | rfl | rfl | rfl | rfl | rfl | rfl <;> exact ⟨_, rfl, by decide, by decide⟩
    refine ⟨?_, ?_, hlev⟩
    · unfold filterB shareB
      rw [hv.ok hsz, hf', s1, if_pos rfl, s2, s3, hp]
      decide
    · unfold ofL
      rw [hf', s1, if_pos rfl, s3]
/-- A name put together of levels. -/
theorem name_made {n : ByteArray} {N : List (List UInt8)} (hn : n.data.toList = joinL N) (hN : N ≠ []) (h47 : ∀ x ∈ N, 47 ∉ x) (hv : ∀ x ∈ N, Vt x) (h36 : ∀ x ∈ N, 36 ∉ x) (hw : ∀ x ∈ N, wildL x = false) (hs : n.size ≤ 65535) (h0 : 0 < n.size) :
    nameB n = true ∧ lev n.data.toList = N ∧ ([36] : List UInt8).isPrefixOf n.data.toList = false := by
  have hlev := lev_join N hN h47
  have h3 : ∀ c, c ∈ joinL N → c = 47 ∨ ∃ x ∈ N, c ∈ x := in_join N
  have hwd : wildL n.data.toList = false := by
    rw [hn]
    refine wild_no ?_ ?_
    · intro hm
      rcases h3 _ hm with h | ⟨x, hx, hc⟩
      · exact absurd h (by decide)
      · exact (wild_inv (hw x hx)).1 hc
    · intro hm
      rcases h3 _ hm with h | ⟨x, hx, hc⟩
      · exact absurd h (by decide)
      · exact (wild_inv (hw x hx)).2 hc
  have h36' : 36 ∉ n.data.toList := by
    rw [hn]
    intro hm
    rcases h3 _ hm with h | ⟨x, hx, hc⟩
    · exact absurd h (by decide)
    · exact h36 x hx hc
  exact ⟨name_of (by rw [hn]; exact vt_join N hv) hs h0 hwd, by rw [hn, hlev], (no36 h36').2⟩
/-- A filter of these, where it doesn't end with #. -/
theorem ff_form (l : List UInt8) (h : ∀ t, ffL l ≠ t ++ [35]) : ∃ b, ffL l = preL b ++ joinL (fM l) := by
  unfold ffL ff2 ff1 at *
  cases h2 : atLeast l 2 220
  · cases h0 : atLeast l 0 200
    · cases h1 : atLeast l 1 200
      · exact ⟨false, by simp [preL]⟩
      · exact ⟨true, by simp [preL]⟩
    · exfalso
      rw [h2, h0] at h
      cases h1 : atLeast l 1 200
      · rw [h1] at h
        exact h (joinL (fM l) ++ [47]) (by simp)
      · rw [h1] at h
        exact h ([36, 115, 104, 97, 114, 101, 47, 103, 47] ++ joinL (fM l) ++ [47]) (by simp)
  · exfalso
    rw [h2] at h
    exact h [] (by simp)
theorem last_form (f : ByteArray) (h0 : 0 < f.size) (h : (f[f.size - 1]'(by omega)) ≠ 35) : ∀ t, f.data.toList ≠ t ++ [35] := by
  intro t e
  apply h
  have h1 : f.data.toList[f.size - 1]? = some (f[f.size - 1]'(by omega)) := Lib.data_getElem? f (f.size - 1) (by omega)
  have h2 : f.size = t.length + 1 := by rw [← sz_list, e]; simp
  generalize (f[f.size - 1]'(by omega)) = c at *
  have h3 : f.size - 1 = t.length := by omega
  rw [e, h3] at h1
  simpa using h1.symm

section
variable {T f n : ByteArray} {M : List (List UInt8)} {b : Bool}
/-- What is asked of f, as it is, and with one level more. -/
structure Deep (T f n : ByteArray) (M : List (List UInt8)) (b : Bool) : Prop where
  made : Made T
  fl : f.data.toList = preL b ++ joinL M
  nl : n.data.toList = [116, 47] ++ T.data.toList
  ne : M ≠ []
  one : joinL M ≠ []
  lv : ∀ x ∈ M, Lv x ∧ (wildL x = false ∨ x = [43]) ∧ ¬ x = [35]
  len : M.length ≤ 7
def nlev (T : ByteArray) : List (List UInt8) := [116] :: lev T.data.toList
theorem n_join (T : ByteArray) : joinL (nlev T) = [116, 47] ++ T.data.toList := by
  unfold nlev
  cases h : lev T.data.toList with
  | nil => exact absurd h (lev_ne _)
  | cons x r =>
    rw [joinL, ← h, join_lev]
    rfl
theorem Deep.name (h : Deep T f n M b) (K : List (List UInt8)) (hK : ∀ x ∈ K, Lv x ∧ wildL x = false) (hKl : K.length ≤ 2) {m : ByteArray} (hm : m.data.toList = joinL (nlev T ++ K)) (h0 : 0 < m.size) (hs : m.size ≤ 65535) :
    nameB m = true ∧ lev m.data.toList = nlev T ++ K ∧ ([36] : List UInt8).isPrefixOf m.data.toList = false := by
  have key : ∀ x ∈ nlev T ++ K, 47 ∉ x ∧ Vt x ∧ 36 ∉ x ∧ wildL x = false := by
    intro x hx
    rcases List.mem_append.1 hx with hx | hx
    · rcases List.mem_cons.1 hx with rfl | hx
      · exact ⟨by decide, Vt.one (by decide) (by decide), by decide, by decide⟩
      · exact ⟨lev_no47 _ x hx, vt_lev h.made.vt x hx, h.made.lev36 x hx, h.made.levOk x hx⟩
    · exact ⟨(hK x hx).1.no47, (hK x hx).1.vt, (hK x hx).1.no36, (hK x hx).2⟩
  exact name_made hm (by simp [nlev]) (fun x hx => (key x hx).1) (fun x hx => (key x hx).2.1) (fun x hx => (key x hx).2.2.1) (fun x hx => (key x hx).2.2.2) hs h0
theorem Deep.filter (h : Deep T f n M b) (K : List (List UInt8)) (hK : ∀ x ∈ K, Lv x) (hKl : K.length ≤ 2) (hok : okLev (M ++ K) = true) {g : ByteArray} (hg : g.data.toList = preL b ++ joinL (M ++ K)) (hne : joinL (M ++ K) ≠ []) :
    filterB g = true ∧ ofL g.data.toList = joinL (M ++ K) ∧ lev (joinL (M ++ K)) = M ++ K :=
  filter_made b hg (by simp [h.ne]) (fun x hx => by rcases List.mem_append.1 hx with hx | hx; exact (h.lv x hx).1; exact hK x hx) (by rw [List.length_append]; have := h.len; omega) hok hne
theorem Deep.matches (h : Deep T f n M b) (K J : List (List UInt8)) (hK : ∀ x ∈ K, Lv x) (hKl : K.length ≤ 2) (hok : okLev (M ++ K) = true) (hJ : ∀ x ∈ J, Lv x ∧ wildL x = false) (hJl : J.length ≤ 2)
    {g m : ByteArray} (hg : g.data.toList = preL b ++ joinL (M ++ K)) (hne : joinL (M ++ K) ≠ []) (hm : m.data.toList = joinL (nlev T ++ J)) (h0 : 0 < m.size) (hs : m.size ≤ 65535) :
    matchB g m = coversL (M ++ K) (nlev T ++ J) := by
  obtain ⟨f1, f2, f3⟩ := h.filter K hK hKl hok hg hne
  obtain ⟨n1, n2, n3⟩ := h.name J hJ hJl hm h0 hs
  rw [match_of f1 n1, f2]
  unfold wantsL
  rw [n3, f3, n2]
  rfl
end

end Go.Proofs.YtcacpjdmlcclkaaDoor
