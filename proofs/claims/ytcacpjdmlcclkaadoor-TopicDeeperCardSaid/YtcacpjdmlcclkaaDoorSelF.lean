/-
  What TopicSelves asks, as facts of plain lists.
-/
import Derived.Test.YtcacpjdmlcclkaaDoorTfix
import Derived.Test.YtcacpjdmlcclkaaDoorTopW
namespace Go.Proofs.YtcacpjdmlcclkaaDoor
open Go.RowKit
set_option linter.unusedVariables false
set_option linter.unusedSimpArgs false

theorem ba_app (a b : ByteArray) : (a ++ b).data.toList = a.data.toList ++ b.data.toList := by simp
theorem no36 {l : List UInt8} (h : 36 ∉ l) : isShare l = false ∧ ([36] : List UInt8).isPrefixOf l = false := by
  cases l with
  | nil => exact ⟨rfl, rfl⟩
  | cons c t =>
    have hc : c ≠ 36 := fun e => h (by simp [e])
    refine ⟨share_first hc, ?_⟩
    simp [List.isPrefixOf]
    exact fun e => hc e.symm
theorem in_join : ∀ (M : List (List UInt8)) (c : UInt8), c ∈ joinL M → c = 47 ∨ ∃ x ∈ M, c ∈ x
  | [], c, h => by simp [joinL] at h
  | [x], c, h => .inr ⟨x, by simp, by simpa [joinL] using h⟩
  | x :: y :: r, c, h => by
    rw [joinL] at h
    rcases List.mem_append.1 h with h | h
    · exact .inr ⟨x, by simp, h⟩
    · rcases List.mem_cons.1 h with h | h
      · exact .inl h
      · rcases in_join (y :: r) c h with h | ⟨z, hz, hc⟩
        · exact .inl h
        · exact .inr ⟨z, List.mem_cons_of_mem _ hz, hc⟩
theorem slash_len (M : List (List UInt8)) (B : Nat) (h : ∀ x ∈ M, x.length ≤ B) : (slashL M).length ≤ M.length * (B + 1) := by
  induction M with
  | nil => simp [slashL]
  | cons x M ih =>
    have h1 := ih (fun y hy => h y (List.mem_cons_of_mem _ hy))
    have h2 := h x (by simp)
    rw [show slashL (x :: M) = x ++ [47] ++ slashL M from rfl]
    simp only [List.length_append, List.length_cons, List.length_nil, Nat.add_mul, Nat.one_mul]
    omega
theorem join_slash : ∀ (M : List (List UInt8)), M ≠ [] → joinL M ++ [47] = slashL M
  | [], h => absurd rfl h
  | [x], _ => by simp [joinL, slashL]
  | x :: y :: r, _ => by
    rw [joinL, show slashL (x :: y :: r) = x ++ [47] ++ slashL (y :: r) from rfl, ← join_slash (y :: r) (by simp)]
    simp
theorem join_len (M : List (List UInt8)) (B : Nat) (h : ∀ x ∈ M, x.length ≤ B) : (joinL M).length ≤ M.length * (B + 1) := by
  cases M with
  | nil => simp [joinL]
  | cons x r =>
    have h1 := slash_len (x :: r) B h
    rw [← join_slash (x :: r) (by simp)] at h1
    simp at h1 ⊢
    omega
theorem plain_of {l : List UInt8} (h0 : l ≠ []) (h1 : okLev (lev l) = true) : plainL l = true := by
  unfold plainL
  rw [h1]
  cases l with
  | nil => exact absurd rfl h0
  | cons _ _ => rfl
theorem filter_plain {f : ByteArray} (hv : Vt f.data.toList) (hs : f.size ≤ 65535) (h36 : isShare f.data.toList = false) (hp : plainL f.data.toList = true) : filterB f = true ∧ ofL f.data.toList = f.data.toList := by
  unfold filterB ofL
  rw [hv.ok hs, h36, hp]
  exact ⟨rfl, rfl⟩
theorem name_of {n : ByteArray} (hv : Vt n.data.toList) (hs : n.size ≤ 65535) (h0 : 0 < n.size) (hw : wildL n.data.toList = false) : nameB n = true := by
  unfold nameB
  rw [hv.ok hs, hw, decide_eq_true h0]
  rfl
theorem match_of {f n : ByteArray} (hf : filterB f = true) (hn : nameB n = true) : matchB f n = wantsL (ofL f.data.toList) n.data.toList := by
  unfold matchB
  rw [hf, hn]
  rfl
theorem wild_inv {l : List UInt8} (h : wildL l = false) : 43 ∉ l ∧ 35 ∉ l := by
  unfold wildL at h
  simpa using h
def okChars : List UInt8 := [97, 98, 47, 99, 100, 195, 164, 101]
/-- A name as Fix makes it. -/
structure Made (T : ByteArray) : Prop where
  vt : Vt T.data.toList
  ne : T.data.toList ≠ []
  chars : ∀ c ∈ T.data.toList, c ∈ okChars
  len : T.data.toList.length ≤ 16
theorem made_fix (s : ByteArray) : Made (tfixS s) := ⟨tfix_vt _, tfix_ne _, tfix_in _, tfix_len _⟩
section
variable {T : ByteArray}
theorem Made.size (h : Made T) : 0 < T.size ∧ T.size ≤ 16 := by
  have h1 := h.len
  have h2 := List.length_pos_iff.2 h.ne
  rw [sz_list] at h1 h2
  exact ⟨h2, h1⟩
theorem Made.not_in (h : Made T) {c : UInt8} (hc : c ∉ okChars) : c ∉ T.data.toList := fun hm => hc (h.chars c hm)
theorem Made.wild (h : Made T) : wildL T.data.toList = false := wild_no (h.not_in (by decide)) (h.not_in (by decide))
theorem Made.name (h : Made T) : nameB T = true := name_of h.vt (by have := h.size; omega) h.size.1 h.wild
theorem Made.levOk (h : Made T) : ∀ x ∈ lev T.data.toList, wildL x = false := fun x hx =>
  wild_no (fun hm => h.not_in (c := 43) (by decide) (lev_sub _ x hx _ hm)) (fun hm => h.not_in (c := 35) (by decide) (lev_sub _ x hx _ hm))
theorem Made.lev36 (h : Made T) : ∀ x ∈ lev T.data.toList, 36 ∉ x := fun x hx hm => h.not_in (c := 36) (by decide) (lev_sub _ x hx _ hm)
theorem Made.lev16 (h : Made T) : ∀ x ∈ lev T.data.toList, x.length ≤ 16 := fun x hx => Nat.le_trans (lev_mem _ x hx) h.len
theorem Made.lev17 (h : Made T) : (lev T.data.toList).length ≤ 17 := Nat.le_trans (lev_len _) (by have := h.len; omega)
theorem wants_of {g n : List UInt8} (h36 : ([36] : List UInt8).isPrefixOf n = false) (hc : coversL (lev g) (lev n) = true) : wantsL g n = true := by
  unfold wantsL
  rw [h36, hc]
  rfl
theorem Made.m1 (h : Made T) : matchB T T = true := by
  obtain ⟨h1, h2⟩ := no36 (h.not_in (c := 36) (by decide))
  obtain ⟨f1, f2⟩ := filter_plain h.vt (by have := h.size; omega) h1 (plain_of h.ne (okLev_all _ fun x hx => .inl (h.levOk x hx)))
  rw [match_of f1 h.name, f2]
  exact wants_of h2 (covers_self _)
/-- A filter of such levels, and what it is put together of. -/
theorem Made.plain (h : Made T) {f : ByteArray} {M : List (List UInt8)} (hf : f.data.toList = joinL M) (hM : M ≠ []) (h47 : ∀ x ∈ M, 47 ∉ x) (hv : ∀ x ∈ M, Vt x) (h36 : ∀ x ∈ M, 36 ∉ x) (hl : ∀ x ∈ M, x.length ≤ 16) (hn : M.length ≤ 18) (hok : okLev M = true) (hne : joinL M ≠ []) :
    filterB f = true ∧ ofL f.data.toList = joinL M ∧ lev (joinL M) = M ∧ f.size ≤ 400 ∧ plainL (joinL M) = true ∧ Vt (joinL M) ∧ 36 ∉ joinL M := by
  have hlev := lev_join M hM h47
  have hvt := vt_join M hv
  have hsz : f.size ≤ 400 := by
    rw [← sz_list, hf]
    have := join_len M 16 hl
    have h2 : M.length * (16 + 1) ≤ 18 * 17 := Nat.mul_le_mul hn (Nat.le_refl _)
    omega
  have h3 : 36 ∉ joinL M := by
    intro hm
    rcases in_join M 36 hm with h | ⟨x, hx, hc⟩
    · exact absurd h (by decide)
    · exact h36 x hx hc
  have hp : plainL (joinL M) = true := plain_of hne (by rw [hlev]; exact hok)
  obtain ⟨f1, f2⟩ := filter_plain (f := f) (by rw [hf]; exact hvt) (by omega) (by rw [hf]; exact (no36 h3).1) (by rw [hf]; exact hp)
  exact ⟨f1, by rw [f2, hf], hlev, hsz, hp, hvt, h3⟩
theorem join_mem_ne : ∀ (M : List (List UInt8)) (x : List UInt8), x ∈ M → x ≠ [] → joinL M ≠ []
  | [], x, h, _ => by simp at h
  | [y], x, h, hx => by simp at h; subst h; simpa [joinL] using hx
  | y :: z :: r, x, h, hx => by rw [joinL]; simp
theorem set_mem {M : List (List UInt8)} {k : Nat} {a x : List UInt8} (h : x ∈ M.set k a) : x ∈ M ∨ x = a := (List.mem_or_eq_of_mem_set h)
/-- With + in one level's place. -/
theorem Made.plus (h : Made T) (k : Nat) (hk : k < (lev T.data.toList).length) {f : ByteArray} (hf : f.data.toList = joinL ((lev T.data.toList).set k [43])) :
    filterB f = true ∧ ofL f.data.toList = f.data.toList ∧ lev f.data.toList = (lev T.data.toList).set k [43] ∧ f.size ≤ 400 ∧ plainL f.data.toList = true ∧ Vt f.data.toList ∧ 36 ∉ f.data.toList := by
  have hm : ∀ x ∈ (lev T.data.toList).set k [43], x ∈ lev T.data.toList ∨ x = [43] := fun x hx => set_mem hx
  have hin : [43] ∈ (lev T.data.toList).set k [43] := List.mem_iff_getElem.2 ⟨k, by simpa using hk, by simp⟩
  obtain ⟨a1, a2, a3, a4, a5, a6, a7⟩ := h.plain hf (by intro e; rw [e] at hin; simp at hin)
    (fun x hx => by rcases hm x hx with h1 | rfl; exact lev_no47 _ x h1; decide)
    (fun x hx => by rcases hm x hx with h1 | rfl; exact vt_lev h.vt x h1; exact Vt.one (by decide) (by decide))
    (fun x hx => by rcases hm x hx with h1 | rfl; exact h.lev36 x h1; decide)
    (fun x hx => by rcases hm x hx with h1 | rfl; exact h.lev16 x h1; decide)
    (by rw [List.length_set]; have := h.lev17; omega)
    (okLev_all _ fun x hx => by rcases hm x hx with h1 | rfl; exact .inl (h.levOk x h1); exact .inr rfl)
    (join_mem_ne _ _ hin (by simp))
  rw [← hf] at a2 a3 a5 a6 a7
  exact ⟨a1, a2, a3, a4, a5, a6, a7⟩
theorem Made.m2 (h : Made T) (k : Nat) (hk : k < (lev T.data.toList).length) {f : ByteArray} (hf : f.data.toList = joinL ((lev T.data.toList).set k [43])) : matchB f T = true := by
  obtain ⟨a1, a2, a3, _⟩ := h.plus k hk hf
  rw [match_of a1 h.name, a2]
  exact wants_of (no36 (h.not_in (c := 36) (by decide))).2 (by rw [a3]; exact covers_plus _ k hk)
theorem Made.m3 (h : Made T) (k : Nat) {f : ByteArray} (hf : f.data.toList = joinL ((lev T.data.toList).take k ++ [[35]])) : matchB f T = true := by
  have hm : ∀ x ∈ (lev T.data.toList).take k ++ [[35]], x ∈ lev T.data.toList ∨ x = [35] := fun x hx => by
    rcases List.mem_append.1 hx with h1 | h1
    · exact .inl (List.mem_of_mem_take h1)
    · exact .inr (by simpa using h1)
  have hin : [35] ∈ (lev T.data.toList).take k ++ [[35]] := by simp
  obtain ⟨a1, a2, a3, _⟩ := h.plain hf (by simp)
    (fun x hx => by rcases hm x hx with h1 | rfl; exact lev_no47 _ x h1; decide)
    (fun x hx => by rcases hm x hx with h1 | rfl; exact vt_lev h.vt x h1; exact Vt.one (by decide) (by decide))
    (fun x hx => by rcases hm x hx with h1 | rfl; exact h.lev36 x h1; decide)
    (fun x hx => by rcases hm x hx with h1 | rfl; exact h.lev16 x h1; decide)
    (by rw [List.length_append, List.length_take]; have := h.lev17; simp; omega)
    (okLev_hash _ fun x hx => .inl (h.levOk x (List.mem_of_mem_take hx)))
    (join_mem_ne _ _ hin (by simp))
  rw [match_of a1 h.name, a2]
  exact wants_of (no36 (h.not_in (c := 36) (by decide))).2 (by rw [a3]; exact covers_hash _ k)
theorem share_of (F : List UInt8) : isShare ([36, 115, 104, 97, 114, 101, 47, 120, 47] ++ F) = true ∧ whoL (behind ([36, 115, 104, 97, 114, 101, 47, 120, 47] ++ F)) = [120] ∧ whatL (behind ([36, 115, 104, 97, 114, 101, 47, 120, 47] ++ F)) = F := by
  have e : behind ([36, 115, 104, 97, 114, 101, 47, 120, 47] ++ F) = [120] ++ 47 :: F := rfl
  rw [e]
  exact ⟨by unfold isShare shareW; simp [List.isPrefixOf], (who_app [120] F (by decide)).1, (who_app [120] F (by decide)).2⟩
theorem Made.m4 (h : Made T) (k : Nat) (hk : k < (lev T.data.toList).length) {f g : ByteArray} (hf : f.data.toList = joinL ((lev T.data.toList).set k [43])) (hg : g.data.toList = [36, 115, 104, 97, 114, 101, 47, 120, 47] ++ f.data.toList) : matchB g T = true := by
  obtain ⟨a1, a2, a3, a4, a5, a6, a7⟩ := h.plus k hk hf
  obtain ⟨s1, s2, s3⟩ := share_of f.data.toList
  have hv : Vt g.data.toList := by
    rw [hg]
    refine Vt.append ⟨[[36], [115], [104], [97], [114], [101], [47], [120], [47]], ?_, rfl⟩ a6
    intro p hp
    refine .inl ?_
    simp at hp
    rcases hp with rfl | rfl | rfl | rfl | rfl | rfl | rfl | rfl | rfl <;> exact ⟨_, rfl, by decide, by decide⟩
  have hsz : g.size ≤ 65535 := by
    rw [← sz_list, hg, List.length_append, sz_list]
    simp
    omega
  have f1 : filterB g = true := by
    unfold filterB shareB
    rw [hv.ok hsz, hg, s1, if_pos rfl, s2, s3, a5]
    decide
  have f2 : ofL g.data.toList = f.data.toList := by unfold ofL; rw [hg, s1, if_pos rfl, s3]
  rw [match_of f1 h.name, f2]
  exact wants_of (no36 (h.not_in (c := 36) (by decide))).2 (by rw [a3]; exact covers_plus _ k hk)
theorem Made.m5 (h : Made T) : matchB ⟨#[35]⟩ T = true := by
  rw [match_of (by decide +kernel) h.name]
  have e : ofL (⟨#[35]⟩ : ByteArray).data.toList = [35] := by decide +kernel
  rw [e]
  exact wants_of (no36 (h.not_in (c := 36) (by decide))).2 (by rw [show lev [35] = [[35]] by decide +kernel]; exact covers_rest _ _)
/-- With $ ahead. -/
theorem Made.dollar (h : Made T) {n : ByteArray} (hn : n.data.toList = 36 :: T.data.toList) : nameB n = true ∧ ([36] : List UInt8).isPrefixOf n.data.toList = true ∧ Vt n.data.toList ∧ n.size ≤ 17 ∧ wildL n.data.toList = false := by
  have hv : Vt n.data.toList := by rw [hn]; exact Vt.cons (by decide) (by decide) h.vt
  have hsz : n.size = T.size + 1 := by rw [← sz_list, hn, List.length_cons, sz_list]
  have hw : wildL n.data.toList = false := by
    rw [hn]
    refine wild_no ?_ ?_
    · intro hm
      rcases List.mem_cons.1 hm with e | e
      · exact absurd e (by decide)
      · exact h.not_in (c := 43) (by decide) e
    · intro hm
      rcases List.mem_cons.1 hm with e | e
      · exact absurd e (by decide)
      · exact h.not_in (c := 35) (by decide) e
  exact ⟨name_of hv (by have := h.size; omega) (by omega) hw, by rw [hn]; simp [List.isPrefixOf], hv, by have := h.size; omega, hw⟩
theorem Made.m6 (h : Made T) {n : ByteArray} (hn : n.data.toList = 36 :: T.data.toList) : matchB ⟨#[35]⟩ n = false := by
  obtain ⟨d1, d2, _⟩ := h.dollar hn
  rw [match_of (by decide +kernel) d1]
  unfold wantsL
  rw [d2, show wildL ((ofL (⟨#[35]⟩ : ByteArray).data.toList).take 1) = true by decide +kernel]
  rfl
theorem Made.m7 (h : Made T) {n : ByteArray} (hn : n.data.toList = 36 :: T.data.toList) : matchB ⟨#[43, 47, 35]⟩ n = false := by
  obtain ⟨d1, d2, _⟩ := h.dollar hn
  rw [match_of (by decide +kernel) d1]
  unfold wantsL
  rw [d2, show wildL ((ofL (⟨#[43, 47, 35]⟩ : ByteArray).data.toList).take 1) = true by decide +kernel]
  rfl
theorem Made.m8 (h : Made T) {n : ByteArray} (hn : n.data.toList = 36 :: T.data.toList) : matchB n n = true := by
  obtain ⟨d1, d2, d3, d4, d5⟩ := h.dollar hn
  have hs : isShare n.data.toList = false := by
    rw [hn]
    have h115 := h.not_in (c := 115) (by decide)
    cases hl : T.data.toList with
    | nil => exact absurd hl h.ne
    | cons c t =>
      have hc : c ≠ 115 := fun e => h115 (by rw [hl, e]; simp)
      unfold isShare shareW
      simp [List.isPrefixOf]
      exact fun e => absurd e.symm hc
  have hp : plainL n.data.toList = true := by
    refine plain_of (by rw [hn]; simp) (okLev_all _ fun x hx => .inl ?_)
    have hw := wild_inv d5
    exact wild_no (fun hm => hw.1 (lev_sub _ x hx _ hm)) (fun hm => hw.2 (lev_sub _ x hx _ hm))
  obtain ⟨f1, f2⟩ := filter_plain d3 (by omega) hs hp
  rw [match_of f1 d1, f2]
  unfold wantsL
  rw [covers_self, hn]
  have : wildL (((36 : UInt8) :: T.data.toList).take 1) = false := by simp [wildL]
  rw [this]
  simp
end

end Go.Proofs.YtcacpjdmlcclkaaDoor
