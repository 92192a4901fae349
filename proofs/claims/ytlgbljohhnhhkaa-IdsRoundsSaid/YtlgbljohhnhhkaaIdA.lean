/-
  Numbers in use (layer 11), as plain data and as cells.
-/
import Derived.Test.YtlgbljohhnhhkaaBase
import Derived.Test.YtlgbljohhnhhkaaChecked
import Derived.Laws.StructEq
import Derived.Lib.SliceRun
import Derived.Lib.AppendZerosOnto
namespace Go.Proofs.Ytlgbljohhnhhkaa
open Go.RowKit
set_option linter.unusedVariables false
set_option linter.unusedSimpArgs false
set_option maxRecDepth 100000

structure Rw where
  id : Nat
  st : Int
  n : Int
deriving DecidableEq
def Rw.cells (p : Rw) : List Value := [.int .u16 p.id, .int .i64 p.st, .int .i64 p.n]
def Rw.val (p : Rw) : Value := .agg #[.int .u16 p.id, .int .i64 p.st, .int .i64 p.n]
def Rw.zero : Rw := ⟨0, 0, 0⟩
def RC (L : List Rw) : List Value := L.flatMap Rw.cells
@[simp] theorem RC_nil : RC [] = [] := rfl
theorem RC_cons (p : Rw) (L : List Rw) : RC (p :: L) = p.cells ++ RC L := rfl
theorem RC_append (L M : List Rw) : RC (L ++ M) = RC L ++ RC M := by simp [RC]
theorem RC_one (p : Rw) : RC [p] = p.cells := by simp [RC]
theorem RC_length (L : List Rw) : (RC L).length = L.length * 3 := by
  induction L with
  | nil => rfl
  | cons p L ih => rw [RC_cons, List.length_append, ih]; simp [Rw.cells]; omega
theorem RC_cell1 (L : List Rw) : ∀ u ∈ RC L, u.oneCell' = true := by
  intro u hu
  obtain ⟨p, _, hp⟩ := List.mem_flatMap.1 hu
  simp [Rw.cells] at hp
  rcases hp with rfl | rfl | rfl <;> rfl
theorem RC_get (L : List Rw) : ∀ (k : Nat) (h : k < L.length), (RC L)[k * 3]? = some (.int .u16 L[k].id) ∧ (RC L)[k * 3 + 1]? = some (.int .i64 L[k].st) ∧ (RC L)[k * 3 + 2]? = some (.int .i64 L[k].n) := by
  induction L with
  | nil => intro k h; simp at h
  | cons p L ih =>
    intro k h
    cases k with
    | zero => simp [RC_cons, Rw.cells]
    | succ k =>
      have h1 := ih k (by simpa using h)
      have e : (p.cells).length = 3 := rfl
      rw [RC_cons]
      refine ⟨?_, ?_, ?_⟩
      · rw [List.getElem?_append_right (by rw [e]; omega), e, show (k + 1) * 3 - 3 = k * 3 by omega]; simpa using h1.1
      · rw [List.getElem?_append_right (by rw [e]; omega), e, show (k + 1) * 3 + 1 - 3 = k * 3 + 1 by omega]; simpa using h1.2.1
      · rw [List.getElem?_append_right (by rw [e]; omega), e, show (k + 1) * 3 + 2 - 3 = k * 3 + 2 by omega]; simpa using h1.2.2
theorem Row.rw3 {w : World} {a : Option Addr} {L : List Rw} (h : Row w a (RC L)) {k : Nat} (hk : k < L.length) :
    ∃ b off, a = some ⟨b, off, none⟩ ∧ b < w.heap.size ∧ w.cell? ⟨b, off + k * 3, none⟩ = some (.int .u16 L[k].id) ∧ w.cell? ⟨b, off + k * 3 + 1, none⟩ = some (.int .i64 L[k].st) ∧ w.cell? ⟨b, off + k * 3 + 2, none⟩ = some (.int .i64 L[k].n) := by
  obtain ⟨h0, h1, h2⟩ := RC_get L k hk
  rcases h with h | ⟨b, off, ha, hb, hc⟩
  · have := RC_length L; rw [h] at this; simp at this; omega
  · refine ⟨b, off, ha, hb, hc _ _ h0, ?_, ?_⟩
    · rw [Nat.add_assoc]; exact hc _ _ h1
    · rw [Nat.add_assoc]; exact hc _ _ h2

/-! rows of the call's own -/
theorem own_keptNo {w w' : World} {base : Nat} {e : TypeId} {size n : Nat} {v : Value} {xs : List Value} (h : w.ownsRow base e size v n xs) (hk : Kept No w w') : w'.ownsRow base e size v n xs := by
  refine ⟨h.1, ?_⟩
  rcases h.2 with hn | ⟨g, cap, cur, hv, hb, hg, rest⟩
  · exact .inl hn
  · exact .inr ⟨g, cap, cur, hv, hb, (hk.block g (Array.getElem?_eq_some_iff.1 hg).1 (fun f => f)).trans hg, rest⟩
theorem own_row {w : World} {base n c size : Nat} {e : TypeId} {a : Option Addr} {xs : List Value} (h : w.ownsRow base e size (.slice a n c) n xs) : Row w a xs ∧ (a = none → n = 0 ∧ c = 0) := by
  rcases h.2 with ⟨hv, h0⟩ | ⟨g, cap, cur, hv, hg, hb, hn, hm, hs, hx⟩
  · injection hv with e1 e2 e3
    subst e1 e2 e3
    have : xs = [] := List.length_eq_zero_iff.1 (by rw [h.1]; simp)
    exact ⟨.inl this, fun _ => ⟨rfl, rfl⟩⟩
  · injection hv with e1 e2 e3
    subst e1
    refine ⟨.of_cells fun j u hu => h.cells (g := g) rfl j u hu, fun h => by cases h⟩
theorem own_emptyK (w : World) (base : Nat) (e : TypeId) (size : Nat) (hb : base ≤ w.heap.size) : (w.alloc (.cells #[] e)).ownsRow base e size (.slice (some ⟨w.heap.size, 0, none⟩) 0 0) 0 [] :=
  ⟨by simp, .inr ⟨w.heap.size, 0, #[], rfl, hb, Blk.new w e #[], by omega, by simp [maxLen], by simp, by simp⟩⟩
theorem own_mono {w : World} {b0 base size n : Nat} {e : TypeId} {v : Value} {xs : List Value} (h : w.ownsRow base e size v n xs) (hb : b0 ≤ base) : w.ownsRow b0 e size v n xs := by
  refine ⟨h.1, ?_⟩
  rcases h.2 with h | ⟨g, cap, cur, q1, q2, q3⟩
  · exact .inl h
  · exact .inr ⟨g, cap, cur, q1, by omega, q3⟩
/-- A call that answers rows of its own. -/
def OwnR (e : TypeId) (w : World) (L : List Rw) (ed : Ending) (w' : World) : Prop :=
  ∃ a c, ed = .returned (.slice a L.length c) ∧ w'.ownsRow w.heap.size e 3 (.slice a L.length c) L.length (RC L) ∧ Kept No w w'
theorem ownR_of {e : TypeId} {w w' : World} {v : Value} {L : List Rw} {n : Nat} {xs : List Value} (h : w'.ownsRow w.heap.size e 3 v n xs) (hn : n = L.length) (hx : xs = RC L) (hk : Kept No w w') : OwnR e w L (.returned v) w' := by
  subst hn hx
  rcases h.2 with ⟨hv, h0⟩ | ⟨g, cap, cur, hv, _⟩
  · subst hv
    exact ⟨none, 0, by rw [h0], by rw [h0] at h ⊢; exact h, hk⟩
  · subst hv
    exact ⟨_, _, rfl, h, hk⟩
theorem OwnR.from {t : TypeId} {w0 w w' : World} {L : List Rw} {e : Ending} (h : OwnR t w L e w') (hk : Kept No w0 w) : OwnR t w0 L e w' := by
  obtain ⟨a, c, h1, h3, h4⟩ := h
  exact ⟨a, c, h1, own_mono h3 hk.size, hk.trans h4⟩
theorem take_rw {L : List Rw} {j : Nat} (h : j < L.length) : L.take (j + 1) = L.take j ++ [L[j]] := List.take_succ_eq_append_getElem h
theorem RC_length3 (p : Rw) : (RC [p]).length = 1 * 3 := by rw [RC_length]; rfl
theorem new_rw {w : World} {t : TypeId} {p : Rw} : ∀ j u, (RC [p])[j]? = some u → (w.alloc (.cells #[.int .u16 p.id, .int .i64 p.st, .int .i64 p.n] t)).cell? ((⟨w.heap.size, 0, none⟩ : Addr).add j) = some u := by
  have h : RC [p] = [.int .u16 p.id, .int .i64 p.st, .int .i64 p.n] := by rw [RC_one]; rfl
  rw [h]
  exact new_at rfl
theorem info_row : (Try.prog.info? 55).map (fun i => (i.zero, i.size, i.bytes)) = some (some (.agg #[.int .u16 0, .int .i64 0, .int .i64 0]), 3, 24) := by kernel_rfl
theorem info_rrow : (Try.prog.info? 49).map (fun i => (i.zero, i.size, i.bytes)) = some (some (.agg #[.int .u16 0, .int .i64 0, .int .i64 0]), 3, 24) := by kernel_rfl
theorem info_parts' {P : Program} {t : TypeId} {z : Value} {s b : Nat} (h : (P.info? t).map (fun i => (i.zero, i.size, i.bytes)) = some (some z, s, b)) : ∃ i, P.info? t = some i ∧ i.zero = some z ∧ i.size = s ∧ i.bytes = b := by
  rcases hi : P.info? t with _ | i
  · rw [hi] at h; cases h
  · rw [hi] at h
    simp at h
    exact ⟨i, rfl, h.1, h.2.1, h.2.2⟩
theorem neq_row (i1 i2 : Nat) (s1 n1 s2 n2 : Int) (w : World) : Sem.run Try.prog (binOp .neq 49 (.agg #[.int .u16 i1, .int .i64 s1, .int .i64 n1]) (.agg #[.int .u16 i2, .int .i64 s2, .int .i64 n2])) w = .ok (.bool (!decide ((⟨i1, s1, n1⟩ : Rw) = ⟨i2, s2, n2⟩))) w := by
  have hS : Try.prog.underlying 49 = some (.struct (Try.prog.fieldsOf 49)) := by kernel_rfl
  have hp : Try.prog.stoodInHeld 49 = false := by kernel_rfl
  rw [run_neq_struct, show (10000 : Nat) = 9999 + 1 from rfl, run_equalIn_agg w 9999 49 _ _ hS hp]
  simp only [Program.fieldsOf, Try.underlying49]
  have u0 := Try.underlying30
  have u1 := Try.underlying3
  go_simp
  by_cases h1 : i1 = i2 <;> by_cases h2 : s1 = s2 <;> by_cases h3 : n1 = n2 <;> simp [h1, h2, h3, Int.natCast_inj]

/-! which may be -/
def cntB (s n : Int) : Bool := decide (n = 0) || (decide (0 < n) && decide (5 ≤ s))
def fliB (s : Int) : Bool := decide (1 ≤ s) && decide (s ≤ 4)
def couB (s : Int) : Bool := decide (s = 5) || decide (s = 6)
def fitB (s n : Int) : Bool := (fliB s && decide (n = 0)) || (couB s && decide (0 ≤ n))
def opnB (s : Int) : Bool := decide (s = 1) || (decide (s = 2) || couB s)
def ansZ (k : Int) : Int := if k = 4 then 1 else if k = 5 then 2 else if k = 6 then 3 else if k = 7 then 4 else if k = 9 then 5 else if k = 11 then 6 else 0
def folZ (k : Int) (f : Bool) : Int := if k = 5 ∧ f = false then 3 else if k = 6 then 4 else 0
def rightGo : Nat → List Rw → Bool
  | _, [] => true
  | b, r :: t => decide (b < r.id) && (fitB r.st r.n && rightGo r.id t)
def flyN : List Rw → Nat
  | [] => 0
  | r :: t => (if r.st ≤ 4 then 1 else 0) + flyN t
theorem flyN_le (L : List Rw) : flyN L ≤ L.length := by
  induction L with
  | nil => simp [flyN]
  | cons r t ih => simp only [flyN, List.length_cons]; split <;> omega
theorem fit_st {s n : Int} (h : fitB s n = true) : 1 ≤ s ∧ s ≤ 6 ∧ (s ≤ 4 → n = 0) ∧ 0 ≤ n := by
  unfold fitB fliB couB at h
  simp at h
  omega
theorem fit_cnt {s n : Int} (h1 : 1 ≤ s) (h6 : s ≤ 6) : fitB s n = cntB s n := by
  unfold fitB cntB fliB couB
  rw [Bool.eq_iff_iff]
  simp
  omega
theorem fli_of {s n : Int} (h : fitB s n = true) : fliB s = decide (s ≤ 4) := by
  have := fit_st h
  unfold fliB
  rw [Bool.eq_iff_iff]
  simp
  omega

/-! tables -/
/-- Rising, from above b on. -/
inductive Asc : Nat → List Rw → Prop
  | nil (b : Nat) : Asc b []
  | cons {b : Nat} {r : Rw} {t : List Rw} : b < r.id → Asc r.id t → Asc b (r :: t)
theorem asc_of {L : List Rw} : ∀ {b : Nat}, rightGo b L = true → Asc b L := by
  induction L with
  | nil => intro b _; exact .nil b
  | cons r t ih =>
    intro b h
    simp [rightGo] at h
    exact .cons h.1 (ih h.2.2)
theorem fits_all {L : List Rw} : ∀ {b : Nat}, rightGo b L = true → ∀ r ∈ L, fitB r.st r.n = true := by
  induction L with
  | nil => intro b _ r hr; cases hr
  | cons r t ih =>
    intro b h x hx
    simp [rightGo] at h
    rcases List.mem_cons.1 hx with rfl | hx
    · exact h.2.1
    · exact ih h.2.2 x hx
theorem right_of {L : List Rw} : ∀ {b : Nat}, Asc b L → (∀ r ∈ L, fitB r.st r.n = true) → rightGo b L = true := by
  induction L with
  | nil => intro b _ _; rfl
  | cons r t ih =>
    intro b h hf
    cases h with
    | cons h1 h2 =>
      simp [rightGo, h1, hf r (by simp), ih h2 (fun x hx => hf x (List.mem_cons_of_mem _ hx))]
theorem Asc.above {b : Nat} {L : List Rw} (h : Asc b L) : ∀ r ∈ L, b < r.id := by
  induction h with
  | nil => intro r hr; cases hr
  | cons h1 _ ih =>
    intro x hx
    rcases List.mem_cons.1 hx with rfl | hx
    · exact h1
    · exact Nat.lt_trans h1 (ih x hx)
theorem Asc.weak {b c : Nat} {L : List Rw} (h : Asc b L) (hc : c ≤ b) : Asc c L := by
  cases h with
  | nil => exact .nil c
  | cons h1 h2 => exact .cons (by omega) h2
theorem Asc.join {A D : List Rw} {i : Nat} : ∀ {b : Nat}, Asc b A → (∀ r ∈ A, r.id < i) → b < i → (∀ c, c < i → Asc c D) → Asc b (A ++ D) := by
  induction A with
  | nil => intro b _ _ hb hD; exact hD b hb
  | cons r t ih =>
    intro b hA hm hb hD
    cases hA with
    | cons h1 h2 => exact .cons h1 (ih h2 (fun x hx => hm x (List.mem_cons_of_mem _ hx)) (hm r (by simp)) hD)
theorem Asc.left {A C : List Rw} : ∀ {b : Nat}, Asc b (A ++ C) → Asc b A := by
  induction A with
  | nil => intro b _; exact .nil b
  | cons r t ih => intro b h; cases h with | cons h1 h2 => exact .cons h1 (ih h2)
theorem Asc.right {A C : List Rw} : ∀ {b : Nat}, Asc b (A ++ C) → Asc b C := by
  induction A with
  | nil => intro b h; exact h
  | cons r t ih => intro b h; cases h with | cons h1 h2 => exact (ih h2).weak (Nat.le_of_lt h1)
/-- A table, as one number sees it: those before it, it, those behind it. -/
structure Cut (L : List Rw) (i : Nat) (A : List Rw) (o : Option Rw) (C : List Rw) : Prop where
  all : L = A ++ (o.toList ++ C)
  lo : ∀ r ∈ A, r.id < i
  hi : ∀ r ∈ C, i < r.id
  at_ : ∀ r, o = some r → r.id = i
def loL (L : List Rw) (i : Nat) : List Rw := L.filter fun r => decide (r.id < i)
def hiL (L : List Rw) (i : Nat) : List Rw := L.filter fun r => decide (i < r.id)
def ofL (L : List Rw) (i : Nat) : Option Rw := L.find? fun r => decide (r.id = i)
theorem ofL_id {L : List Rw} {i : Nat} {r : Rw} (h : ofL L i = some r) : r.id = i ∧ r ∈ L := by
  have h1 := List.find?_some h
  have h2 := List.mem_of_find?_eq_some h
  simp at h1
  exact ⟨h1, h2⟩
theorem cut_of {L : List Rw} (i : Nat) : ∀ {b : Nat}, Asc b L → Cut L i (loL L i) (ofL L i) (hiL L i) := by
  induction L with
  | nil => intro b _; exact ⟨rfl, by simp [loL], by simp [hiL], by simp [ofL]⟩
  | cons r t ih =>
    intro b h
    cases h with
    | cons h1 h2 =>
      have hI := ih h2
      have hab := h2.above
      refine ⟨?_, by simp [loL], by simp [hiL], fun x hx => (ofL_id hx).1⟩
      rcases Nat.lt_trichotomy r.id i with h | h | h
      · have e1 : loL (r :: t) i = r :: loL t i := by simp [loL, h]
        have hn1 : ¬ i < r.id := by omega
        have hn2 : ¬ r.id = i := by omega
        have e2 : hiL (r :: t) i = hiL t i := by simp [hiL, hn1]
        have e3 : ofL (r :: t) i = ofL t i := by simp [ofL, hn2]
        rw [e1, e2, e3, List.cons_append, ← hI.all]
      · have e1 : loL (r :: t) i = [] := by
          simp [loL, h]
          intro x hx
          have := hab x hx
          omega
        have e2 : hiL (r :: t) i = t := by
          simp [hiL, h]
          intro x hx
          have := hab x hx
          omega
        have e3 : ofL (r :: t) i = some r := by simp [ofL, h]
        rw [e1, e2, e3]
        rfl
      · have e1 : loL (r :: t) i = [] := by
          simp [loL]
          refine ⟨by omega, fun x hx => ?_⟩
          have := hab x hx
          omega
        have e2 : hiL (r :: t) i = r :: t := by
          simp [hiL]
          refine ⟨h, fun x hx => ?_⟩
          have := hab x hx
          omega
        have e3 : ofL (r :: t) i = none := by
          simp [ofL]
          refine ⟨by omega, fun x hx => ?_⟩
          have := hab x hx
          omega
        rw [e1, e2, e3]
        rfl
/-- A number's row is another one, or none. -/
def putR (L : List Rw) (i : Nat) (x : Option Rw) : List Rw := loL L i ++ (x.toList ++ hiL L i)
theorem putR_asc {L : List Rw} {i : Nat} {x : Option Rw} {b : Nat} (h : Asc b L) (hx : ∀ r, x = some r → r.id = i) (hb : b < i) : Asc b (putR L i x) := by
  have hc := cut_of i h
  have hlo : Asc b (loL L i) := by have := h; rw [hc.all] at this; exact this.left
  have hhi0 : Asc b (hiL L i) := by have := h; rw [hc.all] at this; exact this.right.right
  have hhi : Asc i (hiL L i) := by
    cases hq : hiL L i with
    | nil => exact .nil i
    | cons r t => rw [hq] at hhi0; cases hhi0 with | cons _ h2 => exact .cons (hc.hi r (by rw [hq]; simp)) h2
  unfold putR
  refine hlo.join hc.lo hb fun c hcl => ?_
  cases x with
  | none => exact hhi.weak (Nat.le_of_lt hcl)
  | some r =>
    have := hx r rfl
    exact .cons (by omega) (by rw [this]; exact hhi)
theorem putR_fits {L : List Rw} {i : Nat} {x : Option Rw} (h : ∀ r ∈ L, fitB r.st r.n = true) (hx : ∀ r, x = some r → fitB r.st r.n = true) : ∀ r ∈ putR L i x, fitB r.st r.n = true := by
  intro r hr
  unfold putR loL hiL at hr
  rcases List.mem_append.1 hr with hr | hr
  · exact h r ((fun q => (List.mem_filter.1 q).1) hr)
  · rcases List.mem_append.1 hr with hr | hr
    · cases x with
      | none => cases hr
      | some y => simp at hr; subst hr; exact hx _ rfl
    · exact h r ((fun q => (List.mem_filter.1 q).1) hr)
theorem putR_right {L : List Rw} {i : Nat} {x : Option Rw} (h : rightGo 0 L = true) (hi : 0 < i) (h1 : ∀ r, x = some r → r.id = i) (h2 : ∀ r, x = some r → fitB r.st r.n = true) : rightGo 0 (putR L i x) = true :=
  right_of (putR_asc (asc_of h) h1 hi) (putR_fits (fits_all h) h2)
theorem putR_len (L : List Rw) (i : Nat) (x : Option Rw) {b : Nat} (h : Asc b L) : (putR L i x).length ≤ L.length + 1 := by
  have hc := cut_of i h
  have := congrArg List.length hc.all
  simp at this
  unfold putR
  simp
  cases x <;> simp <;> omega
/-- What is done; the error. -/
def openR (L : List Rw) (i : Nat) (s n : Int) : List Rw × Int :=
  if i = 0 ∨ opnB s = false ∨ fitB s n = false then (L, 1) else if (ofL L i).isSome then (L, 7) else (putR L i (some ⟨i, s, n⟩), 0)
def okAt (o : Option Rw) (k n : Int) : Bool := match o with
  | none => false
  | some r => decide (r.st = ansZ k) && (!couB (ansZ k) || decide (r.n = n))
def turnR (L : List Rw) (k : Int) (i : Nat) (f : Bool) (n : Int) : List Rw × Int :=
  if ansZ k = 0 then (L, 1) else if okAt (ofL L i) k n = false then (L, 8) else (putR L i (if folZ k f = 0 then none else some ⟨i, folZ k f, 0⟩), 0)
theorem openR_right {L : List Rw} {i : Nat} {s n : Int} (h : rightGo 0 L = true) : rightGo 0 (openR L i s n).1 = true := by
  unfold openR
  split
  · exact h
  · rename_i h1
    split
    · exact h
    · have hf : fitB s n = true := by cases hq : fitB s n with | true => rfl | false => exact absurd (Or.inr (Or.inr hq)) h1
      exact putR_right h (by rcases Nat.eq_zero_or_pos i with h0 | h0; exact absurd (Or.inl h0) h1; exact h0) (fun r hr => by cases hr; rfl) (fun r hr => by cases hr; exact hf)
theorem fol_fit {k : Int} {f : Bool} (h : folZ k f ≠ 0) : fitB (folZ k f) 0 = true := by
  unfold folZ at h ⊢
  split
  · rfl
  · split
    · rfl
    · rename_i h1 h2; simp [h1, h2] at h
theorem turnR_right {L : List Rw} {k : Int} {i : Nat} {f : Bool} {n : Int} (h : rightGo 0 L = true) : rightGo 0 (turnR L k i f n).1 = true := by
  unfold turnR
  split
  · exact h
  · split
    · exact h
    · rename_i h2
      have ho : ∃ r, ofL L i = some r := by
        cases hq : ofL L i with
        | none => rw [hq] at h2; exact absurd rfl h2
        | some r => exact ⟨r, rfl⟩
      obtain ⟨r, hr⟩ := ho
      have hm := ofL_id hr
      have hp := (asc_of h).above r hm.2
      refine putR_right h (by omega) (fun x hx => ?_) (fun x hx => ?_)
      · split at hx
        · cases hx
        · cases hx; rfl
      · split at hx
        · cases hx
        · rename_i h3; cases hx; exact fol_fit h3
theorem openR_len (L : List Rw) (i : Nat) (s n : Int) (h : rightGo 0 L = true) : (openR L i s n).1.length ≤ L.length + 1 := by
  unfold openR
  split
  · simp
  · split
    · simp
    · exact putR_len _ _ _ (asc_of h)
theorem turnR_len (L : List Rw) (k : Int) (i : Nat) (f : Bool) (n : Int) (h : rightGo 0 L = true) : (turnR L k i f n).1.length ≤ L.length + 1 := by
  unfold turnR
  split
  · simp
  · split
    · simp
    · exact putR_len _ _ _ (asc_of h)

end Go.Proofs.Ytlgbljohhnhhkaa
