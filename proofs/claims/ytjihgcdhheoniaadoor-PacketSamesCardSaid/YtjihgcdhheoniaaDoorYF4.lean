/-
  Contracts and plain facts, one behind the other: PxJ PxK PxL Rng PxN PxP PxO.
-/
import Derived.Test.YtjihgcdhheoniaaDoorYF3
import Derived.Deep.DeepCutAuto
import Derived.Deep.CutBlock
import Derived.Deep.RegionHeld3
import Derived.Test.YtjihgcdhheoniaaDoorBase
import Derived.RangeFuncNested
import Derived.RangeFuncBound
import Derived.RangeFuncCalls
import Derived.RangeFuncLeaves
import Derived.Shelf.Abstract
import Derived.Shelf.RegionOpen
import Derived.OwnWalkIn
import Derived.TacticsInMore
import Derived.LoopNIn
import Derived.LoopIn
/-
  What is taken of bytes: a property; the walk of props.next: made by mkpxj.py.
-/
namespace Go.Proofs.YtjihgcdhheoniaaDoor
open Go.RowKit
set_option linter.unusedVariables false
set_option linter.unusedSimpArgs false
set_option maxRecDepth 100000

/-- What is taken behind an id of type t: the property, what is left, what was wrong. -/
def typS (t id : Nat) (l : List UInt8) (e : Int) : Pr × List UInt8 × Int :=
  if t = 1 then (⟨id, num (taken 1 l e), ⟨#[]⟩, ⟨#[]⟩⟩, leftL 1 l e, leftE 1 l e)
  else if t = 2 then (⟨id, num (taken 2 l e), ⟨#[]⟩, ⟨#[]⟩⟩, leftL 2 l e, leftE 2 l e)
  else if t = 3 then (⟨id, num (taken 4 l e), ⟨#[]⟩, ⟨#[]⟩⟩, leftL 4 l e, leftE 4 l e)
  else if t = 4 then (⟨id, (rv 4 0 0 l e).1, ⟨#[]⟩, ⟨#[]⟩⟩, (rv 4 0 0 l e).2.1, (rv 4 0 0 l e).2.2)
  else if t = 5 then (⟨id, 0, ⟨(binTaken l e).toArray⟩, ⟨#[]⟩⟩, binL l e, binE l e)
  else if t = 6 then (⟨id, 0, ⟨(binTaken l e).toArray⟩, ⟨#[]⟩⟩, binL l e, binE l e)
  else if t = 7 then (⟨id, 0, ⟨(binTaken l e).toArray⟩, ⟨(binTaken (binL l e) (binE l e)).toArray⟩⟩, binL (binL l e) (binE l e), binE (binL l e) (binE l e))
  else (⟨id, 0, ⟨#[]⟩, ⟨#[]⟩⟩, l, e)
def nextS (l : List UInt8) (e : Int) : Pr × List UInt8 × Int := typS (typL (num (taken 1 l e))) (num (taken 1 l e)) (leftL 1 l e) (leftE 1 l e)
/-- Is it one? -/
def nextK (l : List UInt8) : Bool := decide ((nextS l 0).2.2 = 0) && (nextS l 0).1.ok
theorem Kept.set4 {S : Nat → Prop} {w w' : World} (h : Kept S w w') {g : Nat} (hg : w.heap.size ≤ g) (u0 u1 u2 u3 : Value) :
    Kept S w ((((w'.setCell ⟨g, 0, none⟩ u0).setCell ⟨g, 1, none⟩ u1).setCell ⟨g, 2, none⟩ u2).setCell ⟨g, 3, none⟩ u3) :=
  (((h.setCell (p := ⟨g, 0, none⟩) (.inl hg) u0).setCell (p := ⟨g, 1, none⟩) (.inl hg) u1).setCell (p := ⟨g, 2, none⟩) (.inl hg) u2).setCell (p := ⟨g, 3, none⟩) (.inl hg) u3
theorem Tabs.keptR {w w' : World} {r : Nat} {x : Value} (h : Tabs w) (hk : Kept (One r) w w') (hx : w.cell? ⟨r, 0, none⟩ = some x) (hn : ∀ n, x ≠ .int .u8 n) : Tabs w' := by
  have n1 : ¬ One r (Tryd.laysValid_ren.g 3) := fun e => by
    have e' : Tryd.laysValid_ren.g 3 = r := e
    have := h.1 0 (by decide)
    rw [e', hx] at this
    exact hn _ (Option.some.inj this)
  have n2 : ¬ One r (Tryd.laysValid_ren.g 4) := fun e => by
    have e' : Tryd.laysValid_ren.g 4 = r := e
    have := (h.2 0 (by decide)).1
    rw [e', show 2 * 0 = 0 from rfl, hx] at this
    exact hn _ (Option.some.inj this)
  exact ⟨fun c hc => (hk.cell (p := ⟨_, c, none⟩) (cell_lt (h.1 c hc)) n1).trans (h.1 c hc),
   fun i hi => ⟨(hk.cell (p := ⟨_, 2 * i, none⟩) (cell_lt (h.2 i hi).1) n2).trans (h.2 i hi).1, (hk.cell (p := ⟨_, 2 * i + 1, none⟩) (cell_lt (h.2 i hi).2) n2).trans (h.2 i hi).2⟩⟩
theorem bin_le (l : List UInt8) (e : Int) : (binTaken l e).length ≤ 65535 := by
  have h1 := taken_le (num (taken 2 l e)) (leftL 2 l e) (leftE 2 l e)
  have h2 := num_le 2 l e 2 (by omega)
  unfold binTaken
  omega
theorem ba_size (l : List UInt8) : (⟨l.toArray⟩ : ByteArray).size = l.length := by show l.toArray.size = _; simp
structure Pr.sm (p : Pr) : Prop where
  hid : p.id < 256
  hn : p.n < 4294967296
  ha : p.a.size ≤ 65535
  hb : p.b.size ≤ 65535
theorem typS_sm (t id : Nat) (l : List UInt8) (e : Int) (h : id < 256) : (typS t id l e).1.sm := by
  have z : (⟨#[]⟩ : ByteArray).size ≤ 65535 := by decide
  have hn1 := num_le 1 l e 1 (by omega)
  have hn2 := num_le 2 l e 2 (by omega)
  have hn4 := num_le 4 l e 4 (by omega)
  have hv := rv_lt 4 0 0 l e (by decide)
  have hb1 := bin_le l e
  have hb2 := bin_le (binL l e) (binE l e)
  unfold typS
  repeat' split
  all_goals refine ⟨h, ?_, ?_, ?_⟩
  all_goals dsimp only
  all_goals first | exact z | omega | (rw [ba_size]; omega)
theorem nextS_sm (l : List UInt8) (e : Int) : (nextS l e).1.sm := typS_sm _ _ _ _ (num_le 1 l e 1 (by omega))
end Go.Proofs.YtjihgcdhheoniaaDoor

/-
  The document's Next: made by mkpxk.py.
-/
namespace Go.Proofs.YtjihgcdhheoniaaDoor
open Go.RowKit
set_option linter.unusedVariables false
set_option linter.unusedSimpArgs false
set_option maxRecDepth 100000

theorem typS_id (t id : Nat) (l : List UInt8) (e : Int) : (typS t id l e).1.id = id := by
  unfold typS
  repeat' split
  all_goals rfl
theorem nextK_typ (l : List UInt8) (h : typL (num (taken 1 l 0)) = 0) : nextK l = false := by
  unfold nextK
  have h1 : (nextS l 0).1.ok = false := by
    unfold Pr.ok rightB
    rw [show (nextS l 0).1.id = num (taken 1 l 0) from typS_id _ _ _ _, h]
    rfl
  rw [h1, Bool.and_false]
/-- What the document's Next answers: the property, and how many bytes it has; or none. -/
def RNextIs (s : Pr × List UInt8 × Int) (k : Bool) (n : Nat) (w : World) (e : Ending) (w' : World) : Prop :=
  e = .returned (.tuple #[if k then s.1.val else Pr.zero.val, .int .i64 (if k then (n - s.2.1.length : Nat) else 0)]) ∧ Kept No w w'
end Go.Proofs.YtjihgcdhheoniaaDoor

/-
  All properties of bytes; the document's Each.
-/
namespace Go.Proofs.YtjihgcdhheoniaaDoor
open Go.RowKit
set_option linter.unusedVariables false
set_option linter.unusedSimpArgs false
set_option maxRecDepth 100000

theorem leftL_suf (n : Int) (l : List UInt8) (e : Int) : leftL n l e <:+ l := by
  unfold leftL
  split
  · split
    · exact List.drop_suffix _ _
    · exact List.nil_suffix
  · exact List.suffix_refl _
theorem binL_suf (l : List UInt8) (e : Int) : binL l e <:+ l := (leftL_suf _ _ _).trans (leftL_suf _ _ _)
theorem rv_suf : ∀ (f i n : Nat) (l : List UInt8) (e : Int), (rv f i n l e).2.1 <:+ l
  | 0, _, _, _, _ => List.nil_suffix
  | f + 1, i, n, l, e => by
    rw [rv]
    split
    · exact leftL_suf _ _ _
    · split
      · exact (rv_suf f _ _ _ _).trans (leftL_suf _ _ _)
      · split
        · exact List.nil_suffix
        · exact leftL_suf _ _ _
theorem typS_suf (t id : Nat) (l : List UInt8) (e : Int) : (typS t id l e).2.1 <:+ l := by
  unfold typS
  repeat' split
  all_goals dsimp only
  all_goals first | exact leftL_suf _ _ _ | exact rv_suf _ _ _ _ _ | exact binL_suf _ _ | exact (binL_suf _ _).trans (binL_suf _ _) | exact List.suffix_refl _
theorem nextS_suf (l : List UInt8) : (nextS l 0).2.1 <:+ leftL 1 l 0 := typS_suf _ _ _ _
theorem nextK_ne {l : List UInt8} (h : nextK l = true) : l ≠ [] := by
  rintro rfl
  rw [nextK_typ [] (by decide)] at h
  cases h
theorem next_lt {l : List UInt8} (h : nextK l = true) : (nextS l 0).2.1.length < l.length := by
  have h1 := (nextS_suf l).length_le
  have hne := nextK_ne h
  cases l with
  | nil => exact absurd rfl hne
  | cons c t =>
    rw [(one_cons c t).2.1] at h1
    simp only [List.length_cons]
    omega
theorem next_drop (l : List UInt8) : (nextS l 0).2.1 = l.drop (l.length - (nextS l 0).2.1.length) :=
  List.suffix_iff_eq_drop.1 ((nextS_suf l).trans (leftL_suf _ _ _))

/-- All properties of bytes, and whether no bytes are left. -/
def eachF : Nat → List UInt8 → List Pr × Bool
  | 0, _ => ([], true)
  | f + 1, l => if l.isEmpty then ([], true) else if nextK l then ((nextS l 0).1 :: (eachF f (nextS l 0).2.1).1, (eachF f (nextS l 0).2.1).2) else ([], false)
theorem eachF_fuel : ∀ (f g : Nat) (l : List UInt8), l.length ≤ f → l.length ≤ g → eachF f l = eachF g l
  | 0, 0, _, _, _ => rfl
  | 0, g + 1, l, h, _ => by
    have : l = [] := List.length_eq_zero_iff.1 (by omega)
    subst this
    rfl
  | f + 1, 0, l, _, h => by
    have : l = [] := List.length_eq_zero_iff.1 (by omega)
    subst this
    rfl
  | f + 1, g + 1, l, h1, h2 => by
    rw [eachF, eachF]
    split
    · rfl
    · split
      · rename_i hk
        have hlt := next_lt hk
        rw [eachF_fuel f g _ (by omega) (by omega)]
      · rfl
def eachL (l : List UInt8) : List Pr × Bool := eachF l.length l
theorem eachL_nil : eachL [] = ([], true) := rfl
theorem eachL_bad {l : List UInt8} (h0 : l ≠ []) (h : nextK l = false) : eachL l = ([], false) := by
  unfold eachL
  cases l with
  | nil => exact absurd rfl h0
  | cons c t => rw [List.length_cons, eachF]; simp [h]
theorem eachL_cons {l : List UInt8} (h : nextK l = true) : eachL l = ((nextS l 0).1 :: (eachL (nextS l 0).2.1).1, (eachL (nextS l 0).2.1).2) := by
  have hlt := next_lt h
  have hne := nextK_ne h
  unfold eachL
  rw [eachF_fuel l.length (l.length + 1) l (Nat.le_refl _) (by omega), eachF, if_neg (by simpa using hne), if_pos h, eachF_fuel l.length (nextS l 0).2.1.length _ (by omega) (Nat.le_refl _)]
def REachIs (l : List UInt8) (w : World) (e : Ending) (w' : World) : Prop :=
  ∃ a c, e = .returned (.tuple #[.slice a (eachL l).1.length c, .bool (eachL l).2]) ∧ w'.ownsRow w.heap.size 43 4 (.slice a (eachL l).1.length c) (eachL l).1.length (PC (eachL l).1) ∧ Kept No w w'
theorem reach_of {l : List UInt8} {w w' : World} {L : List Pr} {k : Bool} {v : Value} {n : Nat} {xs : List Value} (he : eachL l = (L, k)) (hown : w'.ownsRow w.heap.size 43 4 v n xs) (hn : n = L.length) (hx : xs = PC L) (hk : Kept No w w') : REachIs l w (.returned (.tuple #[v, .bool k])) w' := by
  obtain ⟨a, c, h1, h2, h3⟩ := ownP_of hown hn hx hk
  injection h1 with h1
  subst h1
  exact ⟨a, c, by rw [he], by rw [he]; exact h2, hk⟩
theorem each_len : ∀ (f : Nat) (l : List UInt8), (eachF f l).1.length ≤ f
  | 0, _ => Nat.le_refl _
  | f + 1, l => by
    rw [eachF]
    split
    · simp
    · split
      · have := each_len f (nextS l 0).2.1
        simp only [List.length_cons]
        omega
      · simp
theorem extract_drop (b : ByteArray) (k : Nat) : b.extract k b.size = ⟨(b.data.toList.drop k).toArray⟩ := by
  rw [Lib.extract_eq]
  congr 2
  rw [List.take_of_length_le (by rw [List.length_drop, sz_list]; omega)]

end Go.Proofs.YtjihgcdhheoniaaDoor

/-
  A range over a function whose iterator keeps state in memory of its own: my own law over the library's steps.
-/
namespace Go.Proofs.YtjihgcdhheoniaaDoor
open Go.RowKit
set_option linter.unusedVariables false
set_option linter.unusedSimpArgs false

/-- Blocks from a on, ahead of b. -/
def Mid (a b : Nat) : Nat → Prop := fun k => a ≤ k ∧ k < b
/-- What a round leaves as it was: the blocks from a on, ahead of b. -/
structure Holds2 (a b : Nat) (w w' : World) : Prop where
  size : w.heap.size ≤ w'.heap.size
  same : ∀ k, a ≤ k → k < b → w'.heap[k]? = w.heap[k]?
  bytes : ∀ (k : Nat) (cs : Array Value) (fz : Nat × Nat), w.heap[k]? = some (Obj.cells cs 5 fz) → w'.heap[k]? = w.heap[k]?
theorem Holds2.refl (a b : Nat) (w : World) : Holds2 a b w w := ⟨Nat.le_refl _, fun _ _ _ => rfl, fun _ _ _ _ => rfl⟩
theorem Holds2.trans {a b : Nat} {w w' w'' : World} (h : Holds2 a b w w') (k : Holds2 a b w' w'') : Holds2 a b w w'' :=
  ⟨Nat.le_trans h.size k.size, fun i h1 h2 => (k.same i h1 h2).trans (h.same i h1 h2), fun i cs fz hc => (k.bytes i cs fz ((h.bytes i cs fz hc).trans hc)).trans (h.bytes i cs fz hc)⟩
theorem Holds2.mono {a a' b : Nat} {w w' : World} (h : Holds2 a b w w') (ha : a ≤ a') : Holds2 a' b w w' := ⟨h.size, fun i h1 h2 => h.same i (by omega) h2, h.bytes⟩
theorem Kept.holds2 {S : Nat → Prop} {a b : Nat} {w w' : World} (h : Kept S w w') (hb : b ≤ w.heap.size) (hs : ∀ k, a ≤ k → k < b → ¬ S k) (hu : ∀ (k : Nat) (cs : Array Value) (fz : Nat × Nat), S k → w.heap[k]? ≠ some (Obj.cells cs 5 fz)) : Holds2 a b w w' :=
  ⟨h.size, fun k h1 h2 => h.block k (by omega) (hs k h1 h2), fun k cs fz hc => h.block k (Array.getElem?_eq_some_iff.1 hc).1 (fun hS => hu k cs fz hS hc)⟩
theorem kept_put {w : World} (l : Nat) (o : Obj) {a b : Nat} (ha : a ≤ l) (hb : l < b) : Kept (Mid a b) w (w.putObj l o) :=
  ⟨rfl, rfl, rfl, by simp, fun k hk hn => World.putObj_heap_other (fun e => hn (by subst e; exact ⟨ha, hb⟩))⟩

variable {F : Fence} {n : Nat} {P : Program}

/-- The iterator's word: its own blocks lie between the heap's size at the loop's head and B; the rounds leave them, and it leaves all others. -/
def SeqR {α : Type} (F : Fence) (n : Nat) (P : Program) (g : Nat) (lb : Array Value) (encs : α → Array Value) (S Sp : List α → Prop) (G : World → Prop) (w : World) : Prop :=
  ∀ (l : Nat) (J Jx : Nat → List α → World → Prop) (W : World), Below w.heap.size w W →
    (∀ B s A A', W.heap.size ≤ B → J B s A → Kept (Mid W.heap.size B) A A' → J B s A') → (∀ B s A, J B s A → G A) →
    (∀ B pre x W1, Sp (pre ++ [x]) → W.heap.size ≤ B → B ≤ W1.heap.size → J B pre W1 → YieldAt F (n - 1) P l (encs x) W1 fun e W' =>
      (e = .returned (.bool true) ∧ J B (pre ++ [x]) W' ∧ Holds2 W.heap.size B W1 W') ∨ (e = .returned (.bool false) ∧ Jx B (pre ++ [x]) W')) →
    (∀ B, W.heap.size ≤ B → J B [] W) →
    CallsIn F n P g (#[.func (.yield l) #[] #[]] ++ lb) W fun e W' => (∃ v, e = .returned v) ∧ ((∃ B xs, W.heap.size ≤ B ∧ S xs ∧ J B xs W') ∨ (∃ B pre, W.heap.size ≤ B ∧ Sp pre ∧ Jx B pre W'))

/-- How a round may be left. -/
def postR {α : Type} (h0 : Nat) (I : Nat → List α → World → Prop) (Ix : Code → List α → World → Prop) (B : Nat) (xs : List α) (W : World) : Exit → Act → World → Prop
  | .normal, _, W' => Holds2 h0 B W W' ∧ I B xs W'
  | .ret, _, W' => Holds2 h0 B W W' ∧ Ix .ret xs W'
  | .exit id, _, W' => Holds2 h0 B W W' ∧ Ix (.exit id) xs W'
  | .goto t, _, W' => Holds2 h0 B W W' ∧ Ix (.goto t) xs W'
  | .panic _, _, _ => False
  | .outgrown, _, _ => False

/-- The law. The body's own word I hangs on B; what changes between the loop's head and B doesn't touch it. -/
theorem range_law {α : Type} {g : Operand} {ps : Array Tmp} {assign body : Code} {Q : Exit → Act → World → Prop} {a : Act} {w : World}
    (hro : F.round = none) (h1 : 1 ≤ n) {gf : Nat} {lb : Array Value} (hg : a.eval g = .func (.func gf) #[] lb) (hFg : F.fn gf) (eg : ∀ args w, (callFunc gf args).run P w = .ok (.enter gf args) w)
    {encs : α → Array Value} {S Sp : List α → Prop} {G : World → Prop} (hseq : SeqR F (n - 1) P gf lb encs S Sp G w) (hps : ∀ x, (encs x).size = ps.size)
    (I : Nat → List α → World → Prop) (Ix : Code → List α → World → Prop)
    (hI : ∀ B s A A', w.heap.size ≤ B → I B s A → Kept (Mid w.heap.size B) A A' → I B s A')
    (hIG : ∀ B s A, I B s A → G A)
    (hIx : ∀ c s A A', Ix c s A → Kept (Mid w.heap.size (w.heap.size + 2)) A A' → Ix c s A')
    (h0 : ∀ B, w.heap.size + 2 ≤ B → I B [] w)
    (Ax : α → Act → World → Prop) (hAx : ∀ x a' A A', Ax x a' A → Kept (Mid w.heap.size (w.heap.size + 2)) A A' → Ax x a' A')
    (hassign : ∀ (l B : Nat) (pre : List α) (x : α) (W : World) (K : Act → World → Prop), w.heap.size + 2 ≤ B → B ≤ W.heap.size → I B pre W →
      (∀ a' W', Holds2 w.heap.size B W W' → I B pre W' → Ax x a' W' → K a' W') →
      assign.wpIn (F.inRound l) (n - 1 - 1) P (Exit.then K (fun _ _ _ => False)) { tmps := (ps.zip (encs x)).foldl (fun t (p, v) => t.setIfInBounds p v) a.tmps, defers := [] } W)
    (hbody : ∀ (l B : Nat) (pre : List α) (x : α) (a' : Act) (W : World), Sp (pre ++ [x]) → w.heap.size + 2 ≤ B → B ≤ W.heap.size → I B pre W → Ax x a' W → body.wpIn (F.inRound l) (n - 1 - 1) P (postR w.heap.size I Ix B (pre ++ [x]) W) a' W)
    (hdone : ∀ (B : Nat) (xs : List α) (W : World), w.heap.size + 2 ≤ B → S xs → I B xs W → W.heap[w.heap.size]? = some (.deferred (some [])) → Q .normal { a with defers := { target := .collected w.heap.size, args := #[] } :: a.defers } W)
    (hstop : ∀ (c : Code) (pre : List α) (W : World), Sp pre → Ix c pre W → W.heap[w.heap.size]? = some (.deferred (some [])) → c.wpIn F n P Q { a with defers := { target := .collected w.heap.size, args := #[] } :: a.defers } W) :
    (Code.rangeFunc g ps assign body).wpIn F n P Q a w := by
  refine wpIn_rangeFunc fun fn hfn => ?_
  rw [hro]
  -- the loop's record and the block for deferred calls
  let rec' : LoopState → Option Code → Loop := fun st pe => { state := st, pending := pe, fn, tmps := a.tmps, params := ps, assign, body, defers := w.heap.size }
  obtain ⟨rec, hrec⟩ : ∃ rec, rec = rec' := ⟨_, rfl⟩
  obtain ⟨W1, hW1⟩ : ∃ W1, (w.alloc (.deferred (some []))).alloc (.loop (rec .ready none)) = W1 := ⟨_, rfl⟩
  have hz1 : W1.heap.size = w.heap.size + 2 := by rw [← hW1]; simp
  have hL1 : W1.heap[w.heap.size + 1]? = some (.loop (rec .ready none)) := by
    rw [← hW1]
    have := World.alloc_heap_new (w.alloc (.deferred (some []))) (.loop (rec .ready none))
    rwa [World.size_alloc] at this
  have hD1 : W1.heap[w.heap.size]? = some (.deferred (some [])) := by
    rw [← hW1]
    exact (Below.heap_alloc _ _ _ (by simp)).trans (World.alloc_heap_new w _)
  have hkw : ∀ S, Kept S w W1 := fun S => by rw [← hW1]; exact ((Kept.refl S w).alloc _).alloc _
  have hb1 : Below w.heap.size w W1 := (hkw No).below (Nat.le_refl _) (fun _ _ f => f)
  -- a turn of the record is within what I and Ix abide
  have putI : ∀ {B s W} (o : Obj), w.heap.size + 2 ≤ B → I B s W → I B s (W.putObj (w.heap.size + 1) o) := fun o hB hi => hI _ _ _ _ (by omega) hi (kept_put _ o (by omega) (by omega))
  have putX : ∀ {c s W} (o : Obj), Ix c s W → Ix c s (W.putObj (w.heap.size + 1) o) := fun o hi => hIx _ _ _ _ hi (kept_put _ o (by omega) (by omega))
  refine ⟨w.heap.size + 1, [{ target := .collected w.heap.size, args := #[] }], W1, { target := .fn (.func gf) lb, args := #[.func (.yield (w.heap.size + 1)) #[] #[]] }, W1, gf,
    #[.func (.yield (w.heap.size + 1)) #[] #[]] ++ lb, W1, ?_, ?_, ?_, ?_, fun _ => h1, ?_⟩
  · rw [← hW1, hrec]; exact run_enterLoop_outer _ _ _ _ _
  · simp only [resolve, hg]
    simp [go_sem]
  · intro f' hf'
    simp [Target.leads] at hf'
    subst hf'
    exact hFg
  · simp [invoke, go_sem, eg]
  · refine (hseq (w.heap.size + 1)
      (fun B pre W => I B pre W ∧ W.heap[w.heap.size + 1]? = some (.loop (rec .ready none)) ∧ W.heap[w.heap.size]? = some (.deferred (some [])))
      (fun B pre W => ∃ c, Ix c pre W ∧ W.heap[w.heap.size + 1]? = some (.loop (rec .done (some c))) ∧ W.heap[w.heap.size]? = some (.deferred (some [])))
      W1 hb1 ?abides (fun B s A h => hIG B s A h.1) ?round ?start).mono ?behind
    case abides =>
      rintro B s A A' hB ⟨hi, hl, hd⟩ hk
      refine ⟨hI B s A A' (by omega) hi (hk.mono fun k _ hm => ⟨by have := hm.1; omega, hm.2⟩), ?_, ?_⟩
      · exact (hk.block _ (Array.getElem?_eq_some_iff.1 hl).1 (fun hm => by have := hm.1; omega)).trans hl
      · exact (hk.block _ (Array.getElem?_eq_some_iff.1 hd).1 (fun hm => by have := hm.1; omega)).trans hd
    case start =>
      exact fun B hB => ⟨hI B [] w W1 (by omega) (h0 B (by omega)) (hkw _), hL1, hD1⟩
    case round =>
      rintro B pre x W hpre hB hBW ⟨hi, hl, hd⟩
      have hy := run_yield (P := P) (args := encs x) hl (by rw [hrec]; exact hps x)
      rw [hrec] at hy
      refine ⟨fn, _, assign, body, hy, roundIn_of_wpIn hfn (hassign _ B pre x W _ (by omega) hBW hi ?_)⟩
      intro a' V hh hiV hax
      have hlV := (hh.same _ (by omega) (by omega)).trans hl
      have hdV := (hh.same _ (Nat.le_refl _) (by omega)).trans hd
      have hVlt := (Array.getElem?_eq_some_iff.1 hlV).1
      refine ⟨_, run_beginRound hlV (by rw [hrec]), ?_⟩
      have hput : Kept (Mid w.heap.size (w.heap.size + 2)) V (V.putObj (w.heap.size + 1) (.loop { rec .ready none with state := .busy })) := kept_put _ _ (by omega) (by omega)
      have hl2 : (V.putObj (w.heap.size + 1) (.loop { rec .ready none with state := .busy })).heap[w.heap.size + 1]? = some (.loop { rec .ready none with state := .busy }) := World.putObj_heap_same hVlt
      have hd2 : (V.putObj (w.heap.size + 1) (.loop { rec .ready none with state := .busy })).heap[w.heap.size]? = some (.deferred (some [])) := (World.putObj_heap_other (by omega)).trans hdV
      have hsV := hh.size
      refine wpIn_mono (hbody _ B pre x a' _ hpre (by omega) (by simp; omega) (putI _ (by omega) hiV) (hAx x a' _ _ hax hput)) ?_
      -- the end of a round, whatever its jump
      have fin : ∀ (jump : Option Code) (V3 : World), Holds2 w.heap.size B (V.putObj (w.heap.size + 1) (.loop { rec .ready none with state := .busy })) V3 →
          (Instr.endRound (w.heap.size + 1) jump).run P V3 = .ok (.bool jump.isNone) (V3.putObj (w.heap.size + 1) (.loop (rec (if jump.isNone then .ready else .done) jump))) ∧
          (V3.putObj (w.heap.size + 1) (.loop (rec (if jump.isNone then .ready else .done) jump))).heap[w.heap.size + 1]? = some (.loop (rec (if jump.isNone then .ready else .done) jump)) ∧
          (V3.putObj (w.heap.size + 1) (.loop (rec (if jump.isNone then .ready else .done) jump))).heap[w.heap.size]? = some (.deferred (some [])) := fun jump V3 hk3 => by
        have hl3 := (hk3.same _ (by omega) (by omega)).trans hl2
        have hd3 := (hk3.same _ (Nat.le_refl _) (by omega)).trans hd2
        have hr := run_endRound (P := P) jump hl3
        rw [hrec] at hr ⊢
        exact ⟨hr, World.putObj_heap_same (Array.getElem?_eq_some_iff.1 hl3).1, (World.putObj_heap_other (by omega)).trans hd3⟩
      rintro e a3 V3 hp
      cases e with
      | normal =>
        obtain ⟨hk3, hi3⟩ := hp
        obtain ⟨hr, hl4, hd4⟩ := fin none V3 hk3
        refine ⟨_, _, hr, .inl ⟨rfl, ⟨putI _ (by omega) hi3, hl4, hd4⟩, ?_⟩⟩
        refine ⟨?_, fun k hk1 hk2 => ?_, fun k cs fz hc => ?_⟩
        · have h3 := hk3.size
          simp only [World.putObj, Array.size_setIfInBounds] at h3 ⊢
          omega
        · rw [World.putObj_heap_other (by omega), hk3.same k (by omega) hk2, World.putObj_heap_other (by omega), hh.same k (by omega) hk2]
        · have hV := hh.bytes k cs fz hc
          have hne : w.heap.size + 1 ≠ k := fun e => by rw [← e, hl] at hc; cases hc
          have hV2 : (V.putObj (w.heap.size + 1) (.loop { rec .ready none with state := .busy })).heap[k]? = W.heap[k]? := (World.putObj_heap_other (fun e => hne (by omega))).trans hV
          exact (World.putObj_heap_other (fun e => hne (by omega))).trans ((hk3.bytes k cs fz (hV2.trans hc)).trans hV2)
      | ret =>
        obtain ⟨hk3, hi3⟩ := hp
        obtain ⟨hr, hl4, hd4⟩ := fin (some .ret) V3 hk3
        exact ⟨_, _, hr, .inr ⟨rfl, .ret, putX _ hi3, hl4, hd4⟩⟩
      | exit id =>
        obtain ⟨hk3, hi3⟩ := hp
        obtain ⟨hr, hl4, hd4⟩ := fin (some (.exit id)) V3 hk3
        exact ⟨_, _, hr, .inr ⟨rfl, .exit id, putX _ hi3, hl4, hd4⟩⟩
      | goto t =>
        obtain ⟨hk3, hi3⟩ := hp
        obtain ⟨hr, hl4, hd4⟩ := fin (some (.goto t)) V3 hk3
        exact ⟨_, _, hr, .inr ⟨rfl, .goto t, putX _ hi3, hl4, hd4⟩⟩
      | panic ch => exact hp.elim
      | outgrown => exact hp.elim
    case behind =>
      rintro e W2 ⟨⟨v, rfl⟩, (⟨B, xs, hB, hS, hi, hl, hd⟩ | ⟨B, pre, hB, hSp, c, hi, hl, hd⟩)⟩
      · have hrun := run_endLoop (P := P) hl (by rw [hrec]; simp)
        rw [hrec] at hrun
        exact ⟨none, _, hrun, hdone B xs _ (by omega) hS (putI _ (by omega) hi) ((World.putObj_heap_other (by omega)).trans hd)⟩
      · have hrun := run_endLoop (P := P) hl (by rw [hrec]; simp)
        rw [hrec] at hrun
        exact ⟨some c, _, hrun, hstop c pre _ hSp (putX _ hi) ((World.putObj_heap_other (by omega)).trans hd)⟩

end Go.Proofs.YtjihgcdhheoniaaDoor

/-
  The iterator of props.Each.
-/
namespace Go.Proofs.YtjihgcdhheoniaaDoor
open Go.RowKit
attribute [local go_sem] Oper.semAt_some
set_option linter.unusedVariables false
set_option linter.unusedSimpArgs false
set_option maxRecDepth 100000

/-- What Each hands out. -/
def seqL (l : List UInt8) : List (Pr × Bool) := (eachL l).1.map (fun p => (p, true)) ++ (if (eachL l).2 then [] else [(Pr.zero, false)])
theorem seqL_nil : seqL [] = [] := rfl
theorem seqL_good {l : List UInt8} (h : nextK l = true) : seqL l = ((nextS l 0).1, true) :: seqL (nextS l 0).2.1 := by
  unfold seqL
  rw [eachL_cons h]
  rfl
theorem seqL_bad {l : List UInt8} (h0 : l ≠ []) (h : nextK l = false) : seqL l = [(Pr.zero, false)] := by
  unfold seqL
  rw [eachL_bad h0 h]
  rfl
def encPB (x : Pr × Bool) : Array Value := #[.agg #[.int .u8 x.1.id, .int .u32 x.1.n, .string x.1.a, .string x.1.b], .bool x.2]
def leftM (r : Nat) (w : World) : Nat := match w.cell? ⟨r, 0, none⟩ with | some (.slice _ n _) => n | _ => 0
end Go.Proofs.YtjihgcdhheoniaaDoor

/-
  What a loop over Each tells of the bytes: plain, no program.
-/
namespace Go.Proofs.YtjihgcdhheoniaaDoor
open Go.RowKit
set_option linter.unusedVariables false
set_option linter.unusedSimpArgs false

/-- What the law's own each answers, of at most m: the properties, and whether all was well. -/
def eachM (l : List UInt8) (m : Nat) : List Pr × Bool := if (eachL l).1.length ≤ m then eachL l else ((eachL l).1.take m, true)
theorem seq_lt (l : List UInt8) (i : Nat) (h : i < (eachL l).1.length) : (seqL l)[i]? = some ((eachL l).1[i], true) := by
  unfold seqL
  rw [List.getElem?_append_left (by simpa using h)]
  simp [List.getElem?_eq_getElem h]
theorem seq_at (l : List UInt8) : (seqL l)[(eachL l).1.length]? = if (eachL l).2 then none else some (Pr.zero, false) := by
  unfold seqL
  rw [List.getElem?_append_right (by simp)]
  simp
  split <;> simp
theorem seq_len (l : List UInt8) : (seqL l).length = (eachL l).1.length + (if (eachL l).2 then 0 else 1) := by
  unfold seqL
  simp
  split <;> simp
theorem seq_all {l : List UInt8} (h : ∀ x ∈ seqL l, x.2 = true) : (eachL l).2 = true ∧ (seqL l).map Prod.fst = (eachL l).1 := by
  have h1 : (eachL l).2 = true := by
    cases hk : (eachL l).2 with
    | true => rfl
    | false =>
      have := h (Pr.zero, false) (by unfold seqL; rw [hk]; simp)
      cases this
  refine ⟨h1, ?_⟩
  unfold seqL
  rw [h1]
  simp [Function.comp_def]
theorem eachM_done {l : List UInt8} {m : Nat} (h : ∀ x ∈ seqL l, x.2 = true) (hm : (seqL l).length ≤ m) : eachM l m = ((seqL l).map Prod.fst, true) := by
  obtain ⟨h1, h2⟩ := seq_all h
  have hl : (eachL l).1.length ≤ m := by rw [← h2]; simpa using hm
  unfold eachM
  rw [if_pos hl, h2, ← h1]
theorem eachM_stop {l : List UInt8} {m : Nat} {d : List (Pr × Bool)} {x : Pr × Bool} (hp : d ++ [x] <+: seqL l) (hd : ∀ y ∈ d, y.2 = true) (hdm : d.length ≤ m) (hx : x.2 = true → d.length = m) : eachM l m = (d.map Prod.fst, x.2) := by
  have hlen := hp.length_le
  have hget : ∀ i, i < (d ++ [x]).length → (seqL l)[i]? = (d ++ [x])[i]? := fun i hi => by
    obtain ⟨t, ht⟩ := hp
    rw [← ht, List.getElem?_append_left hi]
  have hxat : (seqL l)[d.length]? = some x := by rw [hget _ (by simp)]; simp
  have hsl := seq_len l
  have hdi : ∀ i (h : i < d.length), (seqL l)[i]? = some d[i] := fun i h => by rw [hget _ (by simp; omega), List.getElem?_append_left h, List.getElem?_eq_getElem h]
  have hdl : d.length ≤ (eachL l).1.length := by
    rcases Nat.lt_or_ge (eachL l).1.length d.length with h | h
    · have h1 := hdi _ h
      rw [seq_at] at h1
      split at h1
      · cases h1
      · have := hd _ (List.getElem_mem h)
        injection h1 with h1
        rw [← h1] at this
        cases this
    · exact h
  have hmap : d.map Prod.fst = (eachL l).1.take d.length := by
    refine List.ext_getElem (by simp; omega) fun i h1 h2 => ?_
    have hi : i < d.length := by simpa using h1
    have h3 := hdi i hi
    rw [seq_lt l i (by omega)] at h3
    injection h3 with h3
    simp [← h3]
  rcases hxv : x.2 with _ | _
  · -- it broke off
    have he : d.length = (eachL l).1.length := by
      rcases Nat.lt_or_ge d.length (eachL l).1.length with h | h
      · rw [seq_lt l _ h] at hxat
        injection hxat with hxat
        rw [← hxat] at hxv
        cases hxv
      · omega
    have h2 : (eachL l).2 = false := by
      rw [he, seq_at] at hxat
      split at hxat
      · cases hxat
      · rename_i h; simpa using h
    unfold eachM
    rw [if_pos (by omega), hmap, he, List.take_length, ← h2]
  · have hm := hx hxv
    have hlt : d.length < (eachL l).1.length := by
      rcases Nat.lt_or_ge d.length (eachL l).1.length with h | h
      · exact h
      · have he : d.length = (eachL l).1.length := by omega
        rw [he, seq_at] at hxat
        split at hxat
        · cases hxat
        · injection hxat with hxat
          rw [← hxat] at hxv
          cases hxv
    unfold eachM
    rw [if_neg (by omega), hmap, hm]

end Go.Proofs.YtjihgcdhheoniaaDoor

/-
  props.Each; the law's each.
-/
namespace Go.Proofs.YtjihgcdhheoniaaDoor
open Go.RowKit
attribute [local go_sem] Oper.semAt_some
set_option linter.unusedVariables false
set_option linter.unusedSimpArgs false
set_option maxRecDepth 100000

theorem op_append {F : Fence} {n : Nat} {P : Program} {o : Oper} {a : Act} {w w' : World} {K : Act → World → Prop} {Q : Exit → Act → World → Prop} (s x : Operand) (t : TypeId) {v u v' : Value} (hop : o.op = Op.call { callee := Callee.builtin Builtin.append, args := #[s, x], argTypes := #[t, t] })
    (hs : a.eval s = v) (hx : a.eval x = u) (hrun : (Builtin.append_ #[t, t] o.type #[v, u]).run P w = .ok v' w') (hK : K (a.put o.dst v') w') : o.wpIn F n P a w K Q := by
  unfold Oper.wpIn
  refine ⟨by simp [Oper.about, hop, resolve, Target.leads, Sem.run_pure], ?_⟩
  rw [Oper.semAt_plain F _ _ (by rw [hop]; intro c hc'; cases hc')]
  simp [execOp, hop, resolve, invoke, builtin, hs, hx, hrun, Result.andThen]
  exact hK
def LEachIs (l : List UInt8) (m : Nat) (w : World) (e : Ending) (w' : World) : Prop :=
  ∃ a c, e = .returned (.tuple #[.slice a (eachM l m).1.length c, .bool (eachM l m).2]) ∧ Row w' a (PC (eachM l m).1) ∧ (a = none → (eachM l m).1.length = 0 ∧ c = 0) ∧ Kept No w w'
theorem own_mid {w w' : World} {B size n a : Nat} {e : TypeId} {v : Value} {xs : List Value} (h : w.ownsRow B e size v n xs) (hk : Kept (Mid a B) w w') : w'.ownsRow B e size v n xs := by
  refine ⟨h.1, ?_⟩
  rcases h.2 with h2 | ⟨g, cap, cur, q1, q2, q3, q4⟩
  · exact .inl h2
  · exact .inr ⟨g, cap, cur, q1, q2, (hk.block g (Array.getElem?_eq_some_iff.1 q3).1 (fun hm => by have := hm.2; omega)).trans q3, q4⟩
theorem Kept.noMid {w A A' : World} {a b : Nat} (h : Kept No w A) (hk : Kept (Mid a b) A A') (ha : w.heap.size ≤ a) : Kept No w A' :=
  h.then hk fun i hi hm => by have := hm.1; omega
/-- Between two rounds of the law's each. -/
def LI (m : Nat) (w : World) (B : Nat) (pre : List (Pr × Bool)) (W : World) : Prop :=
  ∃ v, (∀ x ∈ pre, x.2 = true) ∧ pre.length ≤ m ∧ Blk W w.heap.size 3 #[.int .i64 m] ∧ Blk W (w.heap.size + 1) 23 #[.slice none 0 0] ∧ Blk W (w.heap.size + 2) 4 #[.bool false] ∧ Blk W (w.heap.size + 3) 23 #[v] ∧
    W.ownsRow B 43 4 v pre.length (PC (pre.map Prod.fst)) ∧ Kept No w W
/-- A round has left. -/
def LX (m z : Nat) (w : World) (c : Code) (pre : List (Pr × Bool)) (W : World) : Prop :=
  c = .ret ∧ ∃ (d : List (Pr × Bool)) (x : Pr × Bool) (v : Value), pre = d ++ [x] ∧ (∀ y ∈ d, y.2 = true) ∧ d.length ≤ m ∧ (x.2 = true → d.length = m) ∧ Blk W (w.heap.size + 1) 23 #[v] ∧ Blk W (w.heap.size + 2) 4 #[.bool x.2] ∧
    W.ownsRow z 43 4 v d.length (PC (d.map Prod.fst)) ∧ Kept No w W
theorem LI.abides {m : Nat} {w : World} {B z : Nat} {pre : List (Pr × Bool)} {A A' : World} (hz : w.heap.size + 4 ≤ z) (h : LI m w B pre A) (hk : Kept (Mid z B) A A') : LI m w B pre A' := by
  obtain ⟨v, h1, h2, b0, b1, b2, b3, ho, hw⟩ := h
  have n : ∀ k, k < w.heap.size + 4 → ¬ Mid z B k := fun k hk hm => by have := hm.1; omega
  exact ⟨v, h1, h2, b0.kept hk (n _ (by omega)), b1.kept hk (n _ (by omega)), b2.kept hk (n _ (by omega)), b3.kept hk (n _ (by omega)), own_mid ho hk, hw.noMid hk (by omega)⟩
theorem LX.abides {m : Nat} {w : World} {z : Nat} {c : Code} {pre : List (Pr × Bool)} {A A' : World} (hz : w.heap.size + 4 ≤ z) (h : LX m (z + 2) w c pre A) (hk : Kept (Mid z (z + 2)) A A') : LX m (z + 2) w c pre A' := by
  obtain ⟨hc, d, x, v, h1, h2, h3, h4, b1, b2, ho, hw⟩ := h
  have n : ∀ k, k < w.heap.size + 4 → ¬ Mid z (z + 2) k := fun k hk hm => by have := hm.1; omega
  exact ⟨hc, d, x, v, h1, h2, h3, h4, b1.kept hk (n _ (by omega)), b2.kept hk (n _ (by omega)), own_mid ho hk, hw.noMid hk (by omega)⟩

/-- The blocks that a round of the law's each turns. -/
def LS (w : World) (v : Value) : Nat → Prop := fun k => k = w.heap.size + 1 ∨ k = w.heap.size + 2 ∨ k = w.heap.size + 3 ∨ v.ownBlock = some k
theorem LS.holds {w W W' : World} {v : Value} {z B n : Nat} {xs : List Value} (hz : w.heap.size + 4 ≤ z) (hB : B ≤ W.heap.size) (hk : Kept (LS w v) W W') (ho : W.ownsRow B 43 4 v n xs)
    {u1 u2 u3 : Array Value} (b1 : Blk W (w.heap.size + 1) 23 u1) (b2 : Blk W (w.heap.size + 2) 4 u2) (b3 : Blk W (w.heap.size + 3) 23 u3) : Holds2 z B W W' := by
  refine hk.holds2 hB (fun k h1 h2 hS => ?_) (fun k cs fz hS hx => ?_)
  · rcases hS with h | h | h | h
    · omega
    · omega
    · omega
    · have := (ho.lt k h).1; omega
  · rcases hS with h | h | h | h
    · subst h; unfold Blk at b1; rw [b1] at hx; injection hx with hx; injection hx with _ h2 _; exact absurd h2 (by decide)
    · subst h; unfold Blk at b2; rw [b2] at hx; injection hx with hx; injection hx with _ h2 _; exact absurd h2 (by decide)
    · subst h; unfold Blk at b3; rw [b3] at hx; injection hx with hx; injection hx with _ h2 _; exact absurd h2 (by decide)
    · rcases ho.2 with ⟨hv, _⟩ | ⟨g, cap, cur, hv, _, hg, _⟩
      · subst hv; cases h
      · subst hv
        injection h with h
        subst h
        rw [hg] at hx
        injection hx with hx
        injection hx with _ h2 _
        exact absurd h2 (by decide)
theorem LS.no {w W W' : World} {v : Value} {n z : Nat} {xs : List Value} (hw : Kept No w W) (hk : Kept (LS w v) W W') (ho : W.ownsRow z 43 4 v n xs) (hz : w.heap.size ≤ z) : Kept No w W' :=
  hw.then hk fun i hi hS => by
    rcases hS with h | h | h | h
    · omega
    · omega
    · omega
    · have := (ho.lt i h).1; omega

theorem own_ne {w w' : World} {B size n : Nat} {e : TypeId} {v : Value} {xs : List Value} {S : Nat → Prop} (h : w.ownsRow B e size v n xs) (hk : Kept S w w') (hS : ∀ g, B ≤ g → ¬ S g) : w'.ownsRow B e size v n xs := by
  refine ⟨h.1, ?_⟩
  rcases h.2 with h2 | ⟨g, cap, cur, q1, q2, q3, q4⟩
  · exact .inl h2
  · exact .inr ⟨g, cap, cur, q1, q2, (hk.block g (Array.getElem?_eq_some_iff.1 q3).1 (hS g q2)).trans q3, q4⟩
theorem LX.leave {m z B : Nat} {w W : World} {pre : List (Pr × Bool)} {x : Pr × Bool} {v : Value} (hz : w.heap.size + 4 ≤ z) (hzB : z + 2 ≤ B) (hB : B ≤ W.heap.size) (hall : ∀ y ∈ pre, y.2 = true) (hpm : pre.length ≤ m) (hx : x.2 = true → pre.length = m)
    {u1 u2 u3 : Value} (b1 : Blk W (w.heap.size + 1) 23 #[u1]) (b2 : Blk W (w.heap.size + 2) 4 #[u2]) (b3 : Blk W (w.heap.size + 3) 23 #[u3]) (ho : W.ownsRow B 43 4 v pre.length (PC (pre.map Prod.fst))) (hw : Kept No w W) :
    Holds2 z B W ((W.setCell ⟨w.heap.size + 1, 0, none⟩ v).setCell ⟨w.heap.size + 1 + 1, 0, none⟩ (.bool x.2)) ∧ LX m (z + 2) w .ret (pre ++ [x]) ((W.setCell ⟨w.heap.size + 1, 0, none⟩ v).setCell ⟨w.heap.size + 1 + 1, 0, none⟩ (.bool x.2)) := by
  have hk : Kept (fun k => k = w.heap.size + 1 ∨ k = w.heap.size + 2) W ((W.setCell ⟨w.heap.size + 1, 0, none⟩ v).setCell ⟨w.heap.size + 1 + 1, 0, none⟩ (.bool x.2)) :=
    ((Kept.refl _ W).setCell (p := ⟨w.heap.size + 1, 0, none⟩) (.inr (.inl rfl)) v).setCell (p := ⟨w.heap.size + 1 + 1, 0, none⟩) (.inr (.inr rfl)) _
  have hk2 : Kept (LS w v) W ((W.setCell ⟨w.heap.size + 1, 0, none⟩ v).setCell ⟨w.heap.size + 1 + 1, 0, none⟩ (.bool x.2)) := hk.mono fun k _ h => by
    rcases h with h | h
    · exact .inl h
    · exact .inr (.inl h)
  refine ⟨LS.holds hz hB hk2 ho b1 b2 b3, rfl, pre, x, v, rfl, hall, hpm, hx, ?_, ?_, own_mono (own_ne ho hk fun g hg hS => by rcases hS with h | h <;> omega) hzB, LS.no hw hk2 ho (by omega)⟩
  · have := (b1.set_ 0 v).far (p := ⟨w.heap.size + 1 + 1, 0, none⟩) (by simp) (.bool x.2)
    simpa using this
  · have := (b2.far (p := ⟨w.heap.size + 1, 0, none⟩) (by simp) v).set_ 0 (.bool x.2)
    simpa using this

theorem LI.next {m z B : Nat} {w W W2 W4 : World} {pre : List (Pr × Bool)} {x : Pr} {v v4 : Value} {o : Obj} (hz : w.heap.size + 4 ≤ z) (hzB : z + 2 ≤ B) (hB : B ≤ W.heap.size) (hall : ∀ y ∈ pre, y.2 = true) (hpm : pre.length ≤ m) (hx : pre.length < m)
    {u0 : Value} (b0 : Blk W w.heap.size 3 #[.int .i64 m]) (b1 : Blk W (w.heap.size + 1) 23 #[.slice none 0 0]) (b2 : Blk W (w.heap.size + 2) 4 #[.bool false]) (b3 : Blk W (w.heap.size + 3) 23 #[u0]) (ho : W.ownsRow B 43 4 v pre.length (PC (pre.map Prod.fst))) (hw : Kept No w W)
    (hk2 : Kept No W W2) (hg : (W2.alloc o).grownBy W4 v.ownBlock) (ho4 : W4.ownsRow B 43 4 v4 (pre.length + 1) (PC (pre.map Prod.fst) ++ PC [x])) :
    Holds2 z B W (W4.setCell ⟨w.heap.size + 1 + 1 + 1, 0, none⟩ v4) ∧ LI m w B (pre ++ [(x, true)]) (W4.setCell ⟨w.heap.size + 1 + 1 + 1, 0, none⟩ v4) := by
  have hkg : Kept (LS w v) W W4 := (hk2.any.alloc o).grown hg (fun k e => .inr (.inr (.inr (.inr e))))
  have hk : Kept (LS w v) W (W4.setCell ⟨w.heap.size + 1 + 1 + 1, 0, none⟩ v4) := hkg.setCell (p := ⟨w.heap.size + 1 + 1 + 1, 0, none⟩) (.inr (.inr (.inr (.inl rfl)))) v4
  have hne : ∀ k, k < w.heap.size + 4 → v.ownBlock ≠ some k := fun k hk e => by have := (ho.lt k e).1; omega
  have up : ∀ {g t cs}, g < w.heap.size + 4 → Blk W g t cs → Blk W4 g t cs := fun hg4 hb => ((hb.kept hk2 (fun f => f)).alloc o).grown hg (hne _ hg4)
  refine ⟨LS.holds hz hB hk ho b1 b2 b3, v4, ?_, by simp; omega, (up (by omega) b0).far (p := ⟨w.heap.size + 1 + 1 + 1, 0, none⟩) (by simp; omega) v4, (up (by omega) b1).far (p := ⟨w.heap.size + 1 + 1 + 1, 0, none⟩) (by simp) v4, (up (by omega) b2).far (p := ⟨w.heap.size + 1 + 1 + 1, 0, none⟩) (by simp) v4, ?_, ?_, LS.no hw hk ho (by omega)⟩
  · intro y hy
    rcases List.mem_append.1 hy with h | h
    · exact hall y h
    · rw [List.mem_singleton.1 h]
  · have := (up (by omega) b3).set_ 0 v4
    simpa using this
  · have h5 := own_ne ho4 ((Kept.refl (One (w.heap.size + 3)) W4).setCell (p := ⟨w.heap.size + 1 + 1 + 1, 0, none⟩) (.inr rfl) v4) (fun g hg4 e => by have : g = w.heap.size + 3 := e; omega)
    rw [List.length_append, List.map_append, PC_append]
    exact h5

end Go.Proofs.YtjihgcdhheoniaaDoor
