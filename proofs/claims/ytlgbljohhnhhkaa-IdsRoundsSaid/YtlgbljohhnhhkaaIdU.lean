/-
  Messages on their way, as plain data.
-/
import Derived.Test.YtlgbljohhnhhkaaIdL
namespace Go.Proofs.Ytlgbljohhnhhkaa
open Go.RowKit
set_option linter.unusedVariables false
set_option linter.unusedSimpArgs false
set_option maxRecDepth 100000

/-- The table, and the list of the numbers that are in use. -/
structure RInv (L : List Rw) (NL : List Nat) : Prop where
  right : rightGo 0 L = true
  st : ∀ r ∈ L, 2 ≤ r.st ∧ r.st ≤ 4
  perm : (L.map Rw.id).Perm NL
theorem rinv_nil : RInv [] [] := ⟨rfl, (fun r hr => by cases hr), .nil⟩
theorem RInv.len {L : List Rw} {NL : List Nat} (h : RInv L NL) : L.length = NL.length := by
  have := h.perm.length_eq
  simpa using this
theorem RInv.fly {L : List Rw} {NL : List Nat} (h : RInv L NL) : flyN L = L.length := by
  have h1 := h.st
  clear h
  induction L with
  | nil => rfl
  | cons r t ih =>
    have h2 := h1 r (by simp)
    rw [flyN, if_pos h2.2, ih (fun x hx => h1 x (List.mem_cons_of_mem _ hx)), List.length_cons, Nat.add_comm]
theorem putR_st {L : List Rw} {i : Nat} {x : Option Rw} (h : ∀ r ∈ L, 2 ≤ r.st ∧ r.st ≤ 4) (hx : ∀ r, x = some r → 2 ≤ r.st ∧ r.st ≤ 4) : ∀ r ∈ putR L i x, 2 ≤ r.st ∧ r.st ≤ 4 := by
  intro r hr
  unfold putR loL hiL at hr
  rcases List.mem_append.1 hr with hr | hr
  · exact h r (List.mem_filter.1 hr).1
  · rcases List.mem_append.1 hr with hr | hr
    · cases x with
      | none => cases hr
      | some y => simp at hr; subst hr; exact hx _ rfl
    · exact h r (List.mem_filter.1 hr).1
theorem RInv.add {L : List Rw} {NL : List Nat} (h : RInv L NL) {i : Nat} (hi : i ≠ 0) (ho : ofL L i = none) : RInv (putR L i (some ⟨i, 2, 0⟩)) (NL ++ [i]) := by
  have hc := cut_of i (asc_of h.right)
  rw [ho] at hc
  refine ⟨putR_right h.right (by omega) (fun r hr => by cases hr; rfl) (fun r hr => by cases hr; rfl), putR_st h.st (fun r hr => by cases hr; show (2 : Int) ≤ 2 ∧ (2 : Int) ≤ 4; omega), ?_⟩
  have hp := h.perm
  have hall : L = loL L i ++ hiL L i := hc.all
  unfold putR
  generalize loL L i = A at *
  generalize hiL L i = C at *
  subst hall
  simp only [Option.toList, List.map_append, List.map_cons, List.map_nil] at hp ⊢
  refine (List.perm_middle (a := i)).trans ?_
  refine .trans ?_ (List.perm_append_comm (l₁ := [i]) (l₂ := NL))
  exact hp.cons i
def open2R (L : List Rw) (i : Nat) : List Rw × Int := if i = 0 then (L, 1) else match ofL L i with | none => (putR L i (some ⟨i, 2, 0⟩), 0) | some _ => (L, 7)
theorem open2 (L : List Rw) (i : Nat) : openR L i 2 0 = open2R L i := by
  unfold open2R
  unfold openR
  by_cases h : i = 0
  · rw [if_pos (.inl h), if_pos h]
  · rw [if_neg (by rw [show opnB 2 = true from rfl, show fitB 2 0 = true from rfl]; simp; exact h), if_neg h]
    cases ofL L i <;> rfl
theorem ofL_mem {L : List Rw} {i : Nat} (h : i ∈ L.map Rw.id) : ∃ r, ofL L i = some r ∧ r.id = i ∧ r ∈ L := by
  obtain ⟨r, hr, hi⟩ := List.mem_map.1 h
  cases ho : ofL L i with
  | none =>
    have := List.find?_eq_none.1 ho r hr
    simp at this
    exact absurd hi this
  | some x => exact ⟨x, rfl, (ofL_id ho).1, (ofL_id ho).2⟩
theorem RInv.get {L : List Rw} {NL : List Nat} (h : RInv L NL) {i : Nat} (hi : i ∈ NL) : ∃ s : Int, ofL L i = some ⟨i, s, 0⟩ ∧ 2 ≤ s ∧ s ≤ 4 := by
  obtain ⟨r, h1, h2, h3⟩ := ofL_mem (h.perm.mem_iff.2 hi)
  have h4 := h.st r h3
  have h5 := fit_st (fits_all h.right r h3)
  obtain ⟨id, st, n⟩ := r
  obtain rfl : id = i := h2
  obtain rfl : n = 0 := h5.2.2.1 h4.2
  exact ⟨st, h1, h4.1, h4.2⟩
/-- Any other way is refused. -/
theorem turn_way {L : List Rw} {i : Nat} {s : Int} (ho : ofL L i = some ⟨i, s, 0⟩) (h2 : 2 ≤ s) (h4 : s ≤ 4) (bad : Bool) (k : Nat) (hk : 4 ≤ k) (hk2 : k ≤ 11) : decide ((turnR L k i bad 0).2 = 0) = decide ((k : Int) = s + 3) := by
  have hk9 : k = 4 ∨ k = 5 ∨ k = 6 ∨ k = 7 ∨ k = 8 ∨ k = 9 ∨ k = 10 ∨ k = 11 := by omega
  have hs : s = 2 ∨ s = 3 ∨ s = 4 := by omega
  unfold turnR
  rw [ho]
  rcases hk9 with rfl | rfl | rfl | rfl | rfl | rfl | rfl | rfl <;> rcases hs with rfl | rfl | rfl <;> rfl
theorem turn_at {L : List Rw} {i : Nat} {s : Int} (ho : ofL L i = some ⟨i, s, 0⟩) (h2 : 2 ≤ s) (h4 : s ≤ 4) (bad : Bool) : turnR L (s + 3) i bad 0 = (putR L i (if folZ (s + 3) bad = 0 then none else some ⟨i, folZ (s + 3) bad, 0⟩), 0) := by
  have hs : s = 2 ∨ s = 3 ∨ s = 4 := by omega
  unfold turnR
  rw [ho]
  rcases hs with rfl | rfl | rfl <;> rfl
/-- Is it at its end? -/
def endB (s : Int) (bad : Bool) : Bool := decide (s = 4) || (decide (s = 2) && bad)
theorem fol_end {s : Int} (h2 : 2 ≤ s) (h4 : s ≤ 4) (bad : Bool) : (folZ (s + 3) bad = 0) ↔ endB s bad = true := by
  have hs : s = 2 ∨ s = 3 ∨ s = 4 := by omega
  rcases hs with rfl | rfl | rfl <;> cases bad <;> decide
theorem fol_on {s : Int} (h2 : 2 ≤ s) (h4 : s ≤ 4) (bad : Bool) (h : endB s bad = false) : folZ (s + 3) bad = s + 1 ∧ s ≤ 3 := by
  have hs : s = 2 ∨ s = 3 ∨ s = 4 := by omega
  rcases hs with rfl | rfl | rfl <;> cases bad <;> revert h <;> decide
theorem RInv.on {L : List Rw} {NL : List Nat} (h : RInv L NL) {i : Nat} {s : Int} (ho : ofL L i = some ⟨i, s, 0⟩) (h2 : 2 ≤ s) (h3 : s ≤ 3) : RInv (putR L i (some ⟨i, s + 1, 0⟩)) NL := by
  have hc := cut_of i (asc_of h.right)
  rw [ho] at hc
  have hpos := (asc_of h.right).above _ (ofL_id ho).2
  refine ⟨putR_right h.right hpos (fun r hr => by cases hr; rfl) (fun r hr => ?_), putR_st h.st (fun r hr => ?_), ?_⟩
  · cases hr
    have hs : s = 2 ∨ s = 3 := by omega
    rcases hs with rfl | rfl <;> rfl
  · cases hr
    show 2 ≤ s + 1 ∧ s + 1 ≤ 4
    omega
  have hp := h.perm
  have hall : L = loL L i ++ (⟨i, s, 0⟩ :: hiL L i) := hc.all
  unfold putR
  generalize loL L i = A at *
  generalize hiL L i = C at *
  subst hall
  simp only [Option.toList, List.map_append, List.map_cons, List.map_nil] at hp ⊢
  exact hp
theorem RInv.off {L : List Rw} {P S : List Nat} {i : Nat} (h : RInv L (P ++ i :: S)) {s : Int} (ho : ofL L i = some ⟨i, s, 0⟩) : RInv (putR L i none) (P ++ S) := by
  have hc := cut_of i (asc_of h.right)
  rw [ho] at hc
  have hpos := (asc_of h.right).above _ (ofL_id ho).2
  refine ⟨putR_right h.right hpos (fun r hr => by cases hr) (fun r hr => by cases hr), putR_st h.st (fun r hr => by cases hr), ?_⟩
  have hp := h.perm
  have hall : L = loL L i ++ (⟨i, s, 0⟩ :: hiL L i) := hc.all
  unfold putR
  generalize loL L i = A at *
  generalize hiL L i = C at *
  subst hall
  simp only [Option.toList, List.map_append, List.map_cons, List.map_nil] at hp ⊢
  have h1 := (List.perm_middle (a := i) (l₁ := A.map Rw.id) (l₂ := C.map Rw.id)).symm.trans (hp.trans (List.perm_middle (a := i) (l₁ := P) (l₂ := S)))
  simpa using h1.cons_inv

/-! lists of numbers as cells -/
def NC (l : List Nat) : List Value := l.map fun (n : Nat) => Value.int .u16 (n : Int)
@[simp] theorem NC_length (l : List Nat) : (NC l).length = l.length := by simp [NC]
theorem NC_append (l m : List Nat) : NC (l ++ m) = NC l ++ NC m := by simp [NC]
theorem NC_one (l : List Nat) : ∀ u ∈ NC l, u.oneCell' = true := by
  intro u hu
  obtain ⟨_, _, rfl⟩ := List.mem_map.1 hu
  rfl
theorem Row.num {w : World} {a : Option Addr} {l : List Nat} (h : Row w a (NC l)) {k : Nat} (hk : k < l.length) : ∃ b off, a = some ⟨b, off, none⟩ ∧ b < w.heap.size ∧ w.cell? ⟨b, off + k, none⟩ = some (.int .u16 l[k]) := by
  obtain ⟨b, off, h1, h2, h3⟩ := h.at_ (k := k) (by simpa using hk)
  exact ⟨b, off, h1, h2, by rw [h3]; simp [NC]⟩
theorem info_u16 : (Try.prog.info? 30).map (fun i => (i.zero, i.size, i.bytes)) = some (some (.int .u16 0), 1, 2) := by kernel_rfl

end Go.Proofs.Ytlgbljohhnhhkaa
