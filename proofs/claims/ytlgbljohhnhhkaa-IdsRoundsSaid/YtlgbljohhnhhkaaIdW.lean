/-
  Contracts that IdsRounds asks: made by mkidw.py.
-/
import Derived.Test.YtlgbljohhnhhkaaIdV
import Derived.Test.YtlgbljohhnhhkaaIdQ
import Derived.Test.YtlgbljohhnhhkaaIdM
namespace Go.Proofs.Ytlgbljohhnhhkaa
open Go.RowKit
set_option linter.unusedVariables false
set_option linter.unusedSimpArgs false
set_option maxRecDepth 100000

def FromIs (n : Nat) (L : List Rw) (w : World) (e : Ending) (w' : World) : Prop := ∃ a c, e = .returned (.slice a n c) ∧ Row w' a (RC L) ∧ Kept No w w'
theorem from_num (a : Option Addr) (c : Nat) (L : List Rw) (n : Nat) (w : World) (hr : Row w a (RC L)) (hl : L.length ≤ 1000) (hn : L.length = n) :
    Calls Try.prog 11 #[.slice a n c] w (FromIs n L w) := by
  subst hn
  exact (ifrom_any a c L w hr (by omega)).mono fun e w' h => by obtain ⟨a4, c4, h1, h2, h3⟩ := h.row; exact ⟨a4, c4, h1, h2.row, h3⟩
/-- What Of answers: a row. -/
def RowIs (i : Nat) (s n : Int) (w : World) (e : Ending) (w' : World) : Prop := e = .returned (.agg #[.int .u16 i, .int .i64 s, .int .i64 n]) ∧ Kept No w w'
theorem of_num (a : Option Addr) (c : Nat) (L : List Rw) (n i : Nat) (w : World) (hr : Row w a (RC L)) (hl : L.length ≤ 1000) (hn : L.length = n) (x : Rw) (ho : (ofL L i).getD Rw.zero = x) :
    Calls Try.prog 19 #[.slice a n c, .int .u16 i] w (RowIs x.id x.st x.n w) := by
  subst hn
  exact (rof_any a c L i w hr (by omega)).mono fun e w' h => ⟨h.1.trans (by rw [ho]; rfl), h.2⟩
def TabW (b0 n : Nat) (L : List Rw) (z : Int) (w : World) (e : Ending) (w' : World) : Prop :=
  ∃ a c, e = .returned (.tuple #[.slice a n c, .int .i64 z]) ∧ Tb w' a c L ∧ (∀ b off, a = some ⟨b, off, none⟩ → b0 ≤ b) ∧ Kept No w w'
theorem open_num (a : Option Addr) (c : Nat) (L : List Rw) (n i : Nat) (w : World) (ht : Tb w a c L) (hR : rightGo 0 L = true) (hl : L.length ≤ 1000) (hn : L.length = n) (M : List Rw) (z : Int) (m : Nat) (hM : open2R L i = (M, z)) (hm : M.length = m) :
    Calls Try.prog 12 #[.slice a n c, .int .u16 i, .int .i64 2, .int .i64 0] w (TabW w.heap.size m M z w) := by
  subst hn
  exact (iopen_own a c L i 2 0 w ht hR hl).mono fun e w' h => by
    rw [open2, hM] at h
    subst hm
    exact h
theorem turn_num (a : Option Addr) (c : Nat) (L : List Rw) (n : Nat) (k : Int) (i : Nat) (f : Bool) (w : World) (ht : Tb w a c L) (hR : rightGo 0 L = true) (hl : L.length ≤ 1000) (hn : L.length = n) (M : List Rw) (z : Int) (m : Nat) (hM : turnR L k i f 0 = (M, z)) (hm : M.length = m) :
    Calls Try.prog 14 #[.slice a n c, .int .i64 k, .int .u16 i, .bool f, .int .i64 0] w (TabN m M z w) := by
  subst hn
  exact (iturn_any a c L k i f 0 w ht hR hl).mono fun e w' h => h.num hM hm
theorem fly_num (a : Option Addr) (c : Nat) (L : List Rw) (n : Nat) (w : World) (hr : Row w a (RC L)) (hl : L.length ≤ 1000) (hn : L.length = n) (h : rightGo 0 L = true) (hf : flyN L = L.length) :
    Calls Try.prog 17 #[.slice a n c] w (FlyIs n w) := by
  subst hn
  have := iflying_any a c L w hr (by omega) (fits_all h)
  rwa [hf] at this
theorem open2_cases (L : List Rw) (i : Nat) : (i = 0 ∧ open2R L i = (L, 1)) ∨ (i ≠ 0 ∧ ∃ r, ofL L i = some r ∧ open2R L i = (L, 7)) ∨ (i ≠ 0 ∧ ofL L i = none ∧ open2R L i = (putR L i (some ⟨i, 2, 0⟩), 0)) := by
  unfold open2R
  by_cases h : i = 0
  · exact .inl ⟨h, if_pos h⟩
  · cases ho : ofL L i with
    | none => exact .inr (.inr ⟨h, rfl, by rw [if_neg h]⟩)
    | some r => exact .inr (.inl ⟨h, r, rfl, by rw [if_neg h]⟩)
def BLs (l : List Bool) : List Value := l.map Value.bool
theorem Row.bl {w : World} {a : Option Addr} {l : List Bool} (h : Row w a (BLs l)) {k : Nat} (hk : k < l.length) : ∃ b off, a = some ⟨b, off, none⟩ ∧ b < w.heap.size ∧ w.cell? ⟨b, off + k, none⟩ = some (.bool l[k]) := by
  obtain ⟨b, off, h1, h2, h3⟩ := h.at_ (k := k) (by simpa [BLs] using hk)
  exact ⟨b, off, h1, h2, by rw [h3]; simp [BLs]⟩
theorem Row.i64 {w : World} {a : Option Addr} {l : List Int} (h : Row w a (ints .i64 l)) {k : Nat} (hk : k < l.length) : ∃ b off, a = some ⟨b, off, none⟩ ∧ b < w.heap.size ∧ w.cell? ⟨b, off + k, none⟩ = some (.int .i64 l[k]) := by
  obtain ⟨b, off, h1, h2, h3⟩ := h.at_ (k := k) (by simpa [ints] using hk)
  exact ⟨b, off, h1, h2, by rw [h3]; simp [ints]⟩

end Go.Proofs.Ytlgbljohhnhhkaa
