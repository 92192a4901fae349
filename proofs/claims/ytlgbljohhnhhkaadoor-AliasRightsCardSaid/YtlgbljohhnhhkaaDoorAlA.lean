/-
  Short names (layer 12), as plain data and as cells.
-/
import Derived.Test.YtlgbljohhnhhkaaDoorTopRef
import Derived.Test.YtlgbljohhnhhkaaDoorBase
import Derived.Test.YtlgbljohhnhhkaaDoorChecked
import Derived.Laws.StructEq
import Derived.Lib.SliceRun
import Derived.Lib.AppendZerosOnto
namespace Go.Proofs.YtlgbljohhnhhkaaDoor
open Go.RowKit
set_option linter.unusedVariables false
set_option linter.unusedSimpArgs false
set_option maxRecDepth 100000

structure Rw where
  id : Nat
  tx : ByteArray
deriving DecidableEq
def Rw.cells (p : Rw) : List Value := [.int .u16 p.id, .string p.tx]
def Rw.val (p : Rw) : Value := .agg #[.int .u16 p.id, .string p.tx]
def RC (L : List Rw) : List Value := L.flatMap Rw.cells
@[simp] theorem RC_nil : RC [] = [] := rfl
theorem RC_cons (p : Rw) (L : List Rw) : RC (p :: L) = p.cells ++ RC L := rfl
theorem RC_append (L M : List Rw) : RC (L ++ M) = RC L ++ RC M := by simp [RC]
theorem RC_one (p : Rw) : RC [p] = p.cells := by simp [RC]
theorem RC_length (L : List Rw) : (RC L).length = L.length * 2 := by
  induction L with
  | nil => rfl
  | cons p L ih => rw [RC_cons, List.length_append, ih]; simp [Rw.cells]; omega
theorem RC_cell1 (L : List Rw) : ∀ u ∈ RC L, u.oneCell' = true := by
  intro u hu
  obtain ⟨p, _, hp⟩ := List.mem_flatMap.1 hu
  simp [Rw.cells] at hp
  rcases hp with rfl | rfl <;> rfl
theorem RC_get (L : List Rw) : ∀ (k : Nat) (h : k < L.length), (RC L)[k * 2]? = some (.int .u16 L[k].id) ∧ (RC L)[k * 2 + 1]? = some (.string L[k].tx) := by
  induction L with
  | nil => intro k h; simp at h
  | cons p L ih =>
    intro k h
    cases k with
    | zero => simp [RC_cons, Rw.cells]
    | succ k =>
      have h1 := ih k (by simpa using h)
      have e : (p.cells).length = 2 := rfl
      rw [RC_cons]
      refine ⟨?_, ?_⟩
      · rw [List.getElem?_append_right (by rw [e]; omega), e, show (k + 1) * 2 - 2 = k * 2 by omega]; simpa using h1.1
      · rw [List.getElem?_append_right (by rw [e]; omega), e, show (k + 1) * 2 + 1 - 2 = k * 2 + 1 by omega]; simpa using h1.2
theorem Row.rw3 {w : World} {a : Option Addr} {L : List Rw} (h : Row w a (RC L)) {k : Nat} (hk : k < L.length) :
    ∃ b off, a = some ⟨b, off, none⟩ ∧ b < w.heap.size ∧ w.cell? ⟨b, off + k * 2, none⟩ = some (.int .u16 L[k].id) ∧ w.cell? ⟨b, off + k * 2 + 1, none⟩ = some (.string L[k].tx) := by
  obtain ⟨h0, h1⟩ := RC_get L k hk
  rcases h with h | ⟨b, off, ha, hb, hc⟩
  · have := RC_length L; rw [h] at this; simp at this; omega
  · refine ⟨b, off, ha, hb, hc _ _ h0, ?_⟩
    rw [Nat.add_assoc]; exact hc _ _ h1

/-! rows of the call's own -/
theorem own_keptNo {w w' : World} {base : Nat} {e : TypeId} {size n : Nat} {v : Value} {xs : List Value} (h : w.ownsRow base e size v n xs) (hk : Kept No w w') : w'.ownsRow base e size v n xs := by
  refine ⟨h.1, ?_⟩
  rcases h.2 with hn | ⟨g, cap, cur, hv, hb, hg, rest⟩
  · exact .inl hn
  · exact .inr ⟨g, cap, cur, hv, hb, (hk.block g (Array.getElem?_eq_some_iff.1 hg).1 (fun f => f)).trans hg, rest⟩
theorem own_row {w : World} {base n c size : Nat} {e : TypeId} {a : Option Addr} {xs : List Value} (h : w.ownsRow base e size (.slice a n c) n xs) : Row w a xs ∧ (a = none → n = 0 ∧ c = 0) := by
  rcases h.2 with ⟨hv, h0⟩ | ⟨g, cap, cur, hv, hg, hb, hn, hm, hs, hx⟩
  · injection hv with e1 e2 e3
    subst e1 e2 e3
    have : xs = [] := List.length_eq_zero_iff.1 (by rw [h.1]; simp)
    exact ⟨.inl this, fun _ => ⟨rfl, rfl⟩⟩
  · injection hv with e1 e2 e3
    subst e1
    refine ⟨.of_cells fun j u hu => h.cells (g := g) rfl j u hu, fun h => by cases h⟩
theorem own_emptyK (w : World) (base : Nat) (e : TypeId) (size : Nat) (hb : base ≤ w.heap.size) : (w.alloc (.cells #[] e)).ownsRow base e size (.slice (some ⟨w.heap.size, 0, none⟩) 0 0) 0 [] :=
  ⟨by simp, .inr ⟨w.heap.size, 0, #[], rfl, hb, Blk.new w e #[], by omega, by simp [maxLen], by simp, by simp⟩⟩
theorem own_mono {w : World} {b0 base size n : Nat} {e : TypeId} {v : Value} {xs : List Value} (h : w.ownsRow base e size v n xs) (hb : b0 ≤ base) : w.ownsRow b0 e size v n xs := by
  refine ⟨h.1, ?_⟩
  rcases h.2 with h | ⟨g, cap, cur, q1, q2, q3⟩
  · exact .inl h
  · exact .inr ⟨g, cap, cur, q1, by omega, q3⟩
/-- A call that answers rows of its own. -/
def OwnR (e : TypeId) (w : World) (L : List Rw) (ed : Ending) (w' : World) : Prop :=
  ∃ a c, ed = .returned (.slice a L.length c) ∧ w'.ownsRow w.heap.size e 2 (.slice a L.length c) L.length (RC L) ∧ Kept No w w'
theorem ownR_of {e : TypeId} {w w' : World} {v : Value} {L : List Rw} {n : Nat} {xs : List Value} (h : w'.ownsRow w.heap.size e 2 v n xs) (hn : n = L.length) (hx : xs = RC L) (hk : Kept No w w') : OwnR e w L (.returned v) w' := by
  subst hn hx
  rcases h.2 with ⟨hv, h0⟩ | ⟨g, cap, cur, hv, _⟩
  · subst hv
    exact ⟨none, 0, by rw [h0], by rw [h0] at h ⊢; exact h, hk⟩
  · subst hv
    exact ⟨_, _, rfl, h, hk⟩
theorem OwnR.from {t : TypeId} {w0 w w' : World} {L : List Rw} {e : Ending} (h : OwnR t w L e w') (hk : Kept No w0 w) : OwnR t w0 L e w' := by
  obtain ⟨a, c, h1, h3, h4⟩ := h
  exact ⟨a, c, h1, own_mono h3 hk.size, hk.trans h4⟩
theorem take_rw {L : List Rw} {j : Nat} (h : j < L.length) : L.take (j + 1) = L.take j ++ [L[j]] := List.take_succ_eq_append_getElem h
theorem RC_length3 (p : Rw) : (RC [p]).length = 1 * 2 := by rw [RC_length]; rfl
theorem new_rw {w : World} {t : TypeId} {p : Rw} : ∀ j u, (RC [p])[j]? = some u → (w.alloc (.cells #[.int .u16 p.id, .string p.tx] t)).cell? ((⟨w.heap.size, 0, none⟩ : Addr).add j) = some u := by
  have h : RC [p] = [.int .u16 p.id, .string p.tx] := by rw [RC_one]; rfl
  rw [h]
  exact new_at rfl
theorem info_row : (Tryd.prog.info? 46).map (fun i => (i.zero, i.size, i.bytes)) = some (some (.agg #[.int .u16 0, .string ⟨#[]⟩]), 2, 24) := by kernel_rfl
theorem info_rrow : (Tryd.prog.info? 25).map (fun i => (i.zero, i.size, i.bytes)) = some (some (.agg #[.int .u16 0, .string ⟨#[]⟩]), 2, 24) := by kernel_rfl
theorem info_parts' {P : Program} {t : TypeId} {z : Value} {s b : Nat} (h : (P.info? t).map (fun i => (i.zero, i.size, i.bytes)) = some (some z, s, b)) : ∃ i, P.info? t = some i ∧ i.zero = some z ∧ i.size = s ∧ i.bytes = b := by
  rcases hi : P.info? t with _ | i
  · rw [hi] at h; cases h
  · rw [hi] at h
    simp at h
    exact ⟨i, rfl, h.1, h.2.1, h.2.2⟩
/-! which may be -/
def rightGo : Nat → List Rw → Bool
  | _, [] => true
  | b, r :: t => decide (b < r.id) && (nameB r.tx && rightGo r.id t)

/-! tables -/
/-- Rising, from above b on. -/
inductive Asc : Nat → List Rw → Prop
  | nil (b : Nat) : Asc b []
  | cons {b : Nat} {r : Rw} {t : List Rw} : b < r.id → Asc r.id t → Asc b (r :: t)
theorem asc_of {L : List Rw} : ∀ {b : Nat}, rightGo b L = true → Asc b L := by
  induction L with
  | nil => intro b _; exact .nil b
  | cons r t ih =>
    intro b h
    simp [rightGo] at h
    exact .cons h.1 (ih h.2.2)
theorem fits_all {L : List Rw} : ∀ {b : Nat}, rightGo b L = true → ∀ r ∈ L, nameB r.tx = true := by
  induction L with
  | nil => intro b _ r hr; cases hr
  | cons r t ih =>
    intro b h x hx
    simp [rightGo] at h
    rcases List.mem_cons.1 hx with rfl | hx
    · exact h.2.1
    · exact ih h.2.2 x hx
theorem right_of {L : List Rw} : ∀ {b : Nat}, Asc b L → (∀ r ∈ L, nameB r.tx = true) → rightGo b L = true := by
  induction L with
  | nil => intro b _ _; rfl
  | cons r t ih =>
    intro b h hf
    cases h with
    | cons h1 h2 =>
      simp [rightGo, h1, hf r (by simp), ih h2 (fun x hx => hf x (List.mem_cons_of_mem _ hx))]
theorem Asc.above {b : Nat} {L : List Rw} (h : Asc b L) : ∀ r ∈ L, b < r.id := by
  induction h with
  | nil => intro r hr; cases hr
  | cons h1 _ ih =>
    intro x hx
    rcases List.mem_cons.1 hx with rfl | hx
    · exact h1
    · exact Nat.lt_trans h1 (ih x hx)
theorem Asc.weak {b c : Nat} {L : List Rw} (h : Asc b L) (hc : c ≤ b) : Asc c L := by
  cases h with
  | nil => exact .nil c
  | cons h1 h2 => exact .cons (by omega) h2
theorem Asc.join {A D : List Rw} {i : Nat} : ∀ {b : Nat}, Asc b A → (∀ r ∈ A, r.id < i) → b < i → (∀ c, c < i → Asc c D) → Asc b (A ++ D) := by
  induction A with
  | nil => intro b _ _ hb hD; exact hD b hb
  | cons r t ih =>
    intro b hA hm hb hD
    cases hA with
    | cons h1 h2 => exact .cons h1 (ih h2 (fun x hx => hm x (List.mem_cons_of_mem _ hx)) (hm r (by simp)) hD)
theorem Asc.left {A C : List Rw} : ∀ {b : Nat}, Asc b (A ++ C) → Asc b A := by
  induction A with
  | nil => intro b _; exact .nil b
  | cons r t ih => intro b h; cases h with | cons h1 h2 => exact .cons h1 (ih h2)
theorem Asc.right {A C : List Rw} : ∀ {b : Nat}, Asc b (A ++ C) → Asc b C := by
  induction A with
  | nil => intro b h; exact h
  | cons r t ih => intro b h; cases h with | cons h1 h2 => exact (ih h2).weak (Nat.le_of_lt h1)
/-- A table, as one number sees it: those before it, it, those behind it. -/
structure Cut (L : List Rw) (i : Nat) (A : List Rw) (o : Option Rw) (C : List Rw) : Prop where
  all : L = A ++ (o.toList ++ C)
  lo : ∀ r ∈ A, r.id < i
  hi : ∀ r ∈ C, i < r.id
  at_ : ∀ r, o = some r → r.id = i
def loL (L : List Rw) (i : Nat) : List Rw := L.filter fun r => decide (r.id < i)
def hiL (L : List Rw) (i : Nat) : List Rw := L.filter fun r => decide (i < r.id)
def ofL (L : List Rw) (i : Nat) : Option Rw := L.find? fun r => decide (r.id = i)
theorem ofL_id {L : List Rw} {i : Nat} {r : Rw} (h : ofL L i = some r) : r.id = i ∧ r ∈ L := by
  have h1 := List.find?_some h
  have h2 := List.mem_of_find?_eq_some h
  simp at h1
  exact ⟨h1, h2⟩
theorem cut_of {L : List Rw} (i : Nat) : ∀ {b : Nat}, Asc b L → Cut L i (loL L i) (ofL L i) (hiL L i) := by
  induction L with
  | nil => intro b _; exact ⟨rfl, by simp [loL], by simp [hiL], by simp [ofL]⟩
  | cons r t ih =>
    intro b h
    cases h with
    | cons h1 h2 =>
      have hI := ih h2
      have hab := h2.above
      refine ⟨?_, by simp [loL], by simp [hiL], fun x hx => (ofL_id hx).1⟩
      rcases Nat.lt_trichotomy r.id i with h | h | h
      · have e1 : loL (r :: t) i = r :: loL t i := by simp [loL, h]
        have hn1 : ¬ i < r.id := by omega
        have hn2 : ¬ r.id = i := by omega
        have e2 : hiL (r :: t) i = hiL t i := by simp [hiL, hn1]
        have e3 : ofL (r :: t) i = ofL t i := by simp [ofL, hn2]
        rw [e1, e2, e3, List.cons_append, ← hI.all]
      · have e1 : loL (r :: t) i = [] := by
          simp [loL, h]
          intro x hx
          have := hab x hx
          omega
        have e2 : hiL (r :: t) i = t := by
          simp [hiL, h]
          intro x hx
          have := hab x hx
          omega
        have e3 : ofL (r :: t) i = some r := by simp [ofL, h]
        rw [e1, e2, e3]
        rfl
      · have e1 : loL (r :: t) i = [] := by
          simp [loL]
          refine ⟨by omega, fun x hx => ?_⟩
          have := hab x hx
          omega
        have e2 : hiL (r :: t) i = r :: t := by
          simp [hiL]
          refine ⟨h, fun x hx => ?_⟩
          have := hab x hx
          omega
        have e3 : ofL (r :: t) i = none := by
          simp [ofL]
          refine ⟨by omega, fun x hx => ?_⟩
          have := hab x hx
          omega
        rw [e1, e2, e3]
        rfl
/-- A number's row is another one, or none. -/
def putR (L : List Rw) (i : Nat) (x : Option Rw) : List Rw := loL L i ++ (x.toList ++ hiL L i)
theorem putR_asc {L : List Rw} {i : Nat} {x : Option Rw} {b : Nat} (h : Asc b L) (hx : ∀ r, x = some r → r.id = i) (hb : b < i) : Asc b (putR L i x) := by
  have hc := cut_of i h
  have hlo : Asc b (loL L i) := by have := h; rw [hc.all] at this; exact this.left
  have hhi0 : Asc b (hiL L i) := by have := h; rw [hc.all] at this; exact this.right.right
  have hhi : Asc i (hiL L i) := by
    cases hq : hiL L i with
    | nil => exact .nil i
    | cons r t => rw [hq] at hhi0; cases hhi0 with | cons _ h2 => exact .cons (hc.hi r (by rw [hq]; simp)) h2
  unfold putR
  refine hlo.join hc.lo hb fun c hcl => ?_
  cases x with
  | none => exact hhi.weak (Nat.le_of_lt hcl)
  | some r =>
    have := hx r rfl
    exact .cons (by omega) (by rw [this]; exact hhi)
theorem putR_fits {L : List Rw} {i : Nat} {x : Option Rw} (h : ∀ r ∈ L, nameB r.tx = true) (hx : ∀ r, x = some r → nameB r.tx = true) : ∀ r ∈ putR L i x, nameB r.tx = true := by
  intro r hr
  unfold putR loL hiL at hr
  rcases List.mem_append.1 hr with hr | hr
  · exact h r ((fun q => (List.mem_filter.1 q).1) hr)
  · rcases List.mem_append.1 hr with hr | hr
    · cases x with
      | none => cases hr
      | some y => simp at hr; subst hr; exact hx _ rfl
    · exact h r ((fun q => (List.mem_filter.1 q).1) hr)
theorem putR_right {L : List Rw} {i : Nat} {x : Option Rw} (h : rightGo 0 L = true) (hi : 0 < i) (h1 : ∀ r, x = some r → r.id = i) (h2 : ∀ r, x = some r → nameB r.tx = true) : rightGo 0 (putR L i x) = true :=
  right_of (putR_asc (asc_of h) h1 hi) (putR_fits (fits_all h) h2)
theorem putR_len (L : List Rw) (i : Nat) (x : Option Rw) {b : Nat} (h : Asc b L) : (putR L i x).length ≤ L.length + 1 := by
  have hc := cut_of i h
  have := congrArg List.length hc.all
  simp at this
  unfold putR
  simp
  cases x <;> simp <;> omega
/-- What is done; the topic; the error. -/
def useR (L : List Rw) (most i : Nat) (s : ByteArray) : List Rw × ByteArray × Int :=
  if i = 0 ∨ most < i ∨ (s.size ≠ 0 ∧ nameB s = false) then (L, ⟨#[]⟩, 1)
  else if s.size ≠ 0 then (putR L i (some ⟨i, s⟩), s, 0)
  else match ofL L i with | none => (L, ⟨#[]⟩, 8) | some r => (L, r.tx, 0)
theorem useR_right {L : List Rw} {most i : Nat} {s : ByteArray} (h : rightGo 0 L = true) : rightGo 0 (useR L most i s).1 = true := by
  unfold useR
  split
  · exact h
  · rename_i h1
    split
    · rename_i h2
      have hf : nameB s = true := by cases hq : nameB s with | true => rfl | false => exact absurd (Or.inr (Or.inr ⟨h2, hq⟩)) h1
      exact putR_right h (by rcases Nat.eq_zero_or_pos i with h0 | h0; exact absurd (Or.inl h0) h1; exact h0) (fun r hr => by cases hr; rfl) (fun r hr => by cases hr; exact hf)
    · split <;> exact h
/-- All aliases at most m. -/
def Upto (m : Nat) (L : List Rw) : Prop := ∀ r ∈ L, r.id ≤ m
theorem asc_len {m : Nat} : ∀ {L : List Rw} {b : Nat}, Asc b L → Upto m L → b ≤ m → L.length ≤ m - b := by
  intro L
  induction L with
  | nil => intro b _ _ _; simp
  | cons r t ih =>
    intro b h hu hb
    cases h with
    | cons h1 h2 =>
      have h3 : r.id ≤ m := hu r (by simp)
      have := ih h2 (fun x hx => hu x (List.mem_cons_of_mem _ hx)) h3
      simp only [List.length_cons]
      omega
theorem useR_upto {L : List Rw} {most i : Nat} {s : ByteArray} (h : Upto most L) : Upto most (useR L most i s).1 := by
  unfold useR
  split
  · exact h
  · rename_i h1
    split
    · intro r hr
      unfold putR loL hiL at hr
      rcases List.mem_append.1 hr with hr | hr
      · exact h r (List.mem_filter.1 hr).1
      · rcases List.mem_append.1 hr with hr | hr
        · simp at hr; subst hr; show i ≤ most; omega
        · exact h r (List.mem_filter.1 hr).1
    · split <;> exact h
theorem useR_len (L : List Rw) (most i : Nat) (s : ByteArray) (h : rightGo 0 L = true) : (useR L most i s).1.length ≤ L.length + 1 := by
  unfold useR
  split
  · simp
  · split
    · exact putR_len _ _ _ (asc_of h)
    · split <;> simp
theorem useR_small {L : List Rw} {most i : Nat} {s : ByteArray} {n : Nat} (h : ∀ r ∈ L, r.tx.size ≤ n) (hs : s.size ≤ n) : ∀ r ∈ (useR L most i s).1, r.tx.size ≤ n := by
  unfold useR
  split
  · exact h
  · split
    · intro r hr
      unfold putR loL hiL at hr
      rcases List.mem_append.1 hr with hr | hr
      · exact h r (List.mem_filter.1 hr).1
      · rcases List.mem_append.1 hr with hr | hr
        · simp at hr; subst hr; exact hs
        · exact h r (List.mem_filter.1 hr).1
    · split <;> exact h

end Go.Proofs.YtlgbljohhnhhkaaDoor
