/-
  A range over a function whose iterator keeps state in memory of its own: my own law over the library's steps.
-/
import Derived.Test.YtfhcmmmgnkinoaaDoorBase
import Derived.RangeFuncNested
import Derived.RangeFuncBound
import Derived.RangeFuncCalls
import Derived.RangeFuncLeaves
namespace Go.Proofs.YtfhcmmmgnkinoaaDoor
open Go.RowKit
set_option linter.unusedVariables false
set_option linter.unusedSimpArgs false

/-- Blocks from a on, ahead of b. -/
def Mid (a b : Nat) : Nat → Prop := fun k => a ≤ k ∧ k < b
/-- What a round leaves as it was: the blocks from a on, ahead of b. -/
structure Holds2 (a b : Nat) (w w' : World) : Prop where
  size : w.heap.size ≤ w'.heap.size
  same : ∀ k, a ≤ k → k < b → w'.heap[k]? = w.heap[k]?
  bytes : ∀ (k : Nat) (cs : Array Value) (fz : Nat × Nat), w.heap[k]? = some (Obj.cells cs 5 fz) → w'.heap[k]? = w.heap[k]?
theorem Holds2.refl (a b : Nat) (w : World) : Holds2 a b w w := ⟨Nat.le_refl _, fun _ _ _ => rfl, fun _ _ _ _ => rfl⟩
theorem Holds2.trans {a b : Nat} {w w' w'' : World} (h : Holds2 a b w w') (k : Holds2 a b w' w'') : Holds2 a b w w'' :=
  ⟨Nat.le_trans h.size k.size, fun i h1 h2 => (k.same i h1 h2).trans (h.same i h1 h2), fun i cs fz hc => (k.bytes i cs fz ((h.bytes i cs fz hc).trans hc)).trans (h.bytes i cs fz hc)⟩
theorem Holds2.mono {a a' b : Nat} {w w' : World} (h : Holds2 a b w w') (ha : a ≤ a') : Holds2 a' b w w' := ⟨h.size, fun i h1 h2 => h.same i (by omega) h2, h.bytes⟩
theorem Kept.holds2 {S : Nat → Prop} {a b : Nat} {w w' : World} (h : Kept S w w') (hb : b ≤ w.heap.size) (hs : ∀ k, a ≤ k → k < b → ¬ S k) (hu : ∀ (k : Nat) (cs : Array Value) (fz : Nat × Nat), S k → w.heap[k]? ≠ some (Obj.cells cs 5 fz)) : Holds2 a b w w' :=
  ⟨h.size, fun k h1 h2 => h.block k (by omega) (hs k h1 h2), fun k cs fz hc => h.block k (Array.getElem?_eq_some_iff.1 hc).1 (fun hS => hu k cs fz hS hc)⟩
theorem kept_put {w : World} (l : Nat) (o : Obj) {a b : Nat} (ha : a ≤ l) (hb : l < b) : Kept (Mid a b) w (w.putObj l o) :=
  ⟨rfl, rfl, rfl, by simp, fun k hk hn => World.putObj_heap_other (fun e => hn (by subst e; exact ⟨ha, hb⟩))⟩

variable {F : Fence} {n : Nat} {P : Program}

/-- The iterator's word: its own blocks lie between the heap's size at the loop's head and B; the rounds leave them, and it leaves all others. -/
def SeqR {α : Type} (F : Fence) (n : Nat) (P : Program) (g : Nat) (lb : Array Value) (encs : α → Array Value) (S Sp : List α → Prop) (G : World → Prop) (w : World) : Prop :=
  ∀ (l : Nat) (J Jx : Nat → List α → World → Prop) (W : World), Below w.heap.size w W →
    (∀ B s A A', W.heap.size ≤ B → J B s A → Kept (Mid W.heap.size B) A A' → J B s A') → (∀ B s A, J B s A → G A) →
    (∀ B pre x W1, Sp (pre ++ [x]) → W.heap.size ≤ B → B ≤ W1.heap.size → J B pre W1 → YieldAt F (n - 1) P l (encs x) W1 fun e W' =>
      (e = .returned (.bool true) ∧ J B (pre ++ [x]) W' ∧ Holds2 W.heap.size B W1 W') ∨ (e = .returned (.bool false) ∧ Jx B (pre ++ [x]) W')) →
    (∀ B, W.heap.size ≤ B → J B [] W) →
    CallsIn F n P g (#[.func (.yield l) #[] #[]] ++ lb) W fun e W' => (∃ v, e = .returned v) ∧ ((∃ B xs, W.heap.size ≤ B ∧ S xs ∧ J B xs W') ∨ (∃ B pre, W.heap.size ≤ B ∧ Sp pre ∧ Jx B pre W'))

/-- How a round may be left. -/
def postR {α : Type} (h0 : Nat) (I : Nat → List α → World → Prop) (Ix : Code → List α → World → Prop) (B : Nat) (xs : List α) (W : World) : Exit → Act → World → Prop
  | .normal, _, W' => Holds2 h0 B W W' ∧ I B xs W'
  | .ret, _, W' => Holds2 h0 B W W' ∧ Ix .ret xs W'
  | .exit id, _, W' => Holds2 h0 B W W' ∧ Ix (.exit id) xs W'
  | .goto t, _, W' => Holds2 h0 B W W' ∧ Ix (.goto t) xs W'
  | .panic _, _, _ => False
  | .outgrown, _, _ => False

/-- The law. The body's own word I hangs on B; what changes between the loop's head and B doesn't touch it. -/
theorem range_law {α : Type} {g : Operand} {ps : Array Tmp} {assign body : Code} {Q : Exit → Act → World → Prop} {a : Act} {w : World}
    (hro : F.round = none) (h1 : 1 ≤ n) {gf : Nat} {lb : Array Value} (hg : a.eval g = .func (.func gf) #[] lb) (hFg : F.fn gf) (eg : ∀ args w, (callFunc gf args).run P w = .ok (.enter gf args) w)
    {encs : α → Array Value} {S Sp : List α → Prop} {G : World → Prop} (hseq : SeqR F (n - 1) P gf lb encs S Sp G w) (hps : ∀ x, (encs x).size = ps.size)
    (I : Nat → List α → World → Prop) (Ix : Code → List α → World → Prop)
    (hI : ∀ B s A A', w.heap.size ≤ B → I B s A → Kept (Mid w.heap.size B) A A' → I B s A')
    (hIG : ∀ B s A, I B s A → G A)
    (hIx : ∀ c s A A', Ix c s A → Kept (Mid w.heap.size (w.heap.size + 2)) A A' → Ix c s A')
    (h0 : ∀ B, w.heap.size + 2 ≤ B → I B [] w)
    (Ax : α → Act → World → Prop) (hAx : ∀ x a' A A', Ax x a' A → Kept (Mid w.heap.size (w.heap.size + 2)) A A' → Ax x a' A')
    (hassign : ∀ (l B : Nat) (pre : List α) (x : α) (W : World) (K : Act → World → Prop), w.heap.size + 2 ≤ B → B ≤ W.heap.size → I B pre W →
      (∀ a' W', Holds2 w.heap.size B W W' → I B pre W' → Ax x a' W' → K a' W') →
      assign.wpIn (F.inRound l) (n - 1 - 1) P (Exit.then K (fun _ _ _ => False)) { tmps := (ps.zip (encs x)).foldl (fun t (p, v) => t.setIfInBounds p v) a.tmps, defers := [] } W)
    (hbody : ∀ (l B : Nat) (pre : List α) (x : α) (a' : Act) (W : World), Sp (pre ++ [x]) → w.heap.size + 2 ≤ B → B ≤ W.heap.size → I B pre W → Ax x a' W → body.wpIn (F.inRound l) (n - 1 - 1) P (postR w.heap.size I Ix B (pre ++ [x]) W) a' W)
    (hdone : ∀ (B : Nat) (xs : List α) (W : World), w.heap.size + 2 ≤ B → S xs → I B xs W → W.heap[w.heap.size]? = some (.deferred (some [])) → Q .normal { a with defers := { target := .collected w.heap.size, args := #[] } :: a.defers } W)
    (hstop : ∀ (c : Code) (pre : List α) (W : World), Sp pre → Ix c pre W → W.heap[w.heap.size]? = some (.deferred (some [])) → c.wpIn F n P Q { a with defers := { target := .collected w.heap.size, args := #[] } :: a.defers } W) :
    (Code.rangeFunc g ps assign body).wpIn F n P Q a w := by
  refine wpIn_rangeFunc fun fn hfn => ?_
  rw [hro]
  -- the loop's record and the block for deferred calls
  let rec' : LoopState → Option Code → Loop := fun st pe => { state := st, pending := pe, fn, tmps := a.tmps, params := ps, assign, body, defers := w.heap.size }
  obtain ⟨rec, hrec⟩ : ∃ rec, rec = rec' := ⟨_, rfl⟩
  obtain ⟨W1, hW1⟩ : ∃ W1, (w.alloc (.deferred (some []))).alloc (.loop (rec .ready none)) = W1 := ⟨_, rfl⟩
  have hz1 : W1.heap.size = w.heap.size + 2 := by rw [← hW1]; simp
  have hL1 : W1.heap[w.heap.size + 1]? = some (.loop (rec .ready none)) := by
    rw [← hW1]
    have := World.alloc_heap_new (w.alloc (.deferred (some []))) (.loop (rec .ready none))
    rwa [World.size_alloc] at this
  have hD1 : W1.heap[w.heap.size]? = some (.deferred (some [])) := by
    rw [← hW1]
    exact (Below.heap_alloc _ _ _ (by simp)).trans (World.alloc_heap_new w _)
  have hkw : ∀ S, Kept S w W1 := fun S => by rw [← hW1]; exact ((Kept.refl S w).alloc _).alloc _
  have hb1 : Below w.heap.size w W1 := (hkw No).below (Nat.le_refl _) (fun _ _ f => f)
  -- a turn of the record is within what I and Ix abide
  have putI : ∀ {B s W} (o : Obj), w.heap.size + 2 ≤ B → I B s W → I B s (W.putObj (w.heap.size + 1) o) := fun o hB hi => hI _ _ _ _ (by omega) hi (kept_put _ o (by omega) (by omega))
  have putX : ∀ {c s W} (o : Obj), Ix c s W → Ix c s (W.putObj (w.heap.size + 1) o) := fun o hi => hIx _ _ _ _ hi (kept_put _ o (by omega) (by omega))
  refine ⟨w.heap.size + 1, [{ target := .collected w.heap.size, args := #[] }], W1, { target := .fn (.func gf) lb, args := #[.func (.yield (w.heap.size + 1)) #[] #[]] }, W1, gf,
    #[.func (.yield (w.heap.size + 1)) #[] #[]] ++ lb, W1, ?_, ?_, ?_, ?_, fun _ => h1, ?_⟩
  · rw [← hW1, hrec]; exact run_enterLoop_outer _ _ _ _ _
  · simp only [resolve, hg]
    simp [go_sem]
  · intro f' hf'
    simp [Target.leads] at hf'
    subst hf'
    exact hFg
  · simp [invoke, go_sem, eg]
  · refine (hseq (w.heap.size + 1)
      (fun B pre W => I B pre W ∧ W.heap[w.heap.size + 1]? = some (.loop (rec .ready none)) ∧ W.heap[w.heap.size]? = some (.deferred (some [])))
      (fun B pre W => ∃ c, Ix c pre W ∧ W.heap[w.heap.size + 1]? = some (.loop (rec .done (some c))) ∧ W.heap[w.heap.size]? = some (.deferred (some [])))
      W1 hb1 ?abides (fun B s A h => hIG B s A h.1) ?round ?start).mono ?behind
    case abides =>
      rintro B s A A' hB ⟨hi, hl, hd⟩ hk
      refine ⟨hI B s A A' (by omega) hi (hk.mono fun k _ hm => ⟨by have := hm.1; omega, hm.2⟩), ?_, ?_⟩
      · exact (hk.block _ (Array.getElem?_eq_some_iff.1 hl).1 (fun hm => by have := hm.1; omega)).trans hl
      · exact (hk.block _ (Array.getElem?_eq_some_iff.1 hd).1 (fun hm => by have := hm.1; omega)).trans hd
    case start =>
      exact fun B hB => ⟨hI B [] w W1 (by omega) (h0 B (by omega)) (hkw _), hL1, hD1⟩
    case round =>
      rintro B pre x W hpre hB hBW ⟨hi, hl, hd⟩
      have hy := run_yield (P := P) (args := encs x) hl (by rw [hrec]; exact hps x)
      rw [hrec] at hy
      refine ⟨fn, _, assign, body, hy, roundIn_of_wpIn hfn (hassign _ B pre x W _ (by omega) hBW hi ?_)⟩
      intro a' V hh hiV hax
      have hlV := (hh.same _ (by omega) (by omega)).trans hl
      have hdV := (hh.same _ (Nat.le_refl _) (by omega)).trans hd
      have hVlt := (Array.getElem?_eq_some_iff.1 hlV).1
      refine ⟨_, run_beginRound hlV (by rw [hrec]), ?_⟩
      have hput : Kept (Mid w.heap.size (w.heap.size + 2)) V (V.putObj (w.heap.size + 1) (.loop { rec .ready none with state := .busy })) := kept_put _ _ (by omega) (by omega)
      have hl2 : (V.putObj (w.heap.size + 1) (.loop { rec .ready none with state := .busy })).heap[w.heap.size + 1]? = some (.loop { rec .ready none with state := .busy }) := World.putObj_heap_same hVlt
      have hd2 : (V.putObj (w.heap.size + 1) (.loop { rec .ready none with state := .busy })).heap[w.heap.size]? = some (.deferred (some [])) := (World.putObj_heap_other (by omega)).trans hdV
      have hsV := hh.size
      refine wpIn_mono (hbody _ B pre x a' _ hpre (by omega) (by simp; omega) (putI _ (by omega) hiV) (hAx x a' _ _ hax hput)) ?_
      -- the end of a round, whatever its jump
      have fin : ∀ (jump : Option Code) (V3 : World), Holds2 w.heap.size B (V.putObj (w.heap.size + 1) (.loop { rec .ready none with state := .busy })) V3 →
          (Instr.endRound (w.heap.size + 1) jump).run P V3 = .ok (.bool jump.isNone) (V3.putObj (w.heap.size + 1) (.loop (rec (if jump.isNone then .ready else .done) jump))) ∧
          (V3.putObj (w.heap.size + 1) (.loop (rec (if jump.isNone then .ready else .done) jump))).heap[w.heap.size + 1]? = some (.loop (rec (if jump.isNone then .ready else .done) jump)) ∧
          (V3.putObj (w.heap.size + 1) (.loop (rec (if jump.isNone then .ready else .done) jump))).heap[w.heap.size]? = some (.deferred (some [])) := fun jump V3 hk3 => by
        have hl3 := (hk3.same _ (by omega) (by omega)).trans hl2
        have hd3 := (hk3.same _ (Nat.le_refl _) (by omega)).trans hd2
        have hr := run_endRound (P := P) jump hl3
        rw [hrec] at hr ⊢
        exact ⟨hr, World.putObj_heap_same (Array.getElem?_eq_some_iff.1 hl3).1, (World.putObj_heap_other (by omega)).trans hd3⟩
      rintro e a3 V3 hp
      cases e with
      | normal =>
        obtain ⟨hk3, hi3⟩ := hp
        obtain ⟨hr, hl4, hd4⟩ := fin none V3 hk3
        refine ⟨_, _, hr, .inl ⟨rfl, ⟨putI _ (by omega) hi3, hl4, hd4⟩, ?_⟩⟩
        refine ⟨?_, fun k hk1 hk2 => ?_, fun k cs fz hc => ?_⟩
        · have h3 := hk3.size
          simp only [World.putObj, Array.size_setIfInBounds] at h3 ⊢
          omega
        · rw [World.putObj_heap_other (by omega), hk3.same k (by omega) hk2, World.putObj_heap_other (by omega), hh.same k (by omega) hk2]
        · have hV := hh.bytes k cs fz hc
          have hne : w.heap.size + 1 ≠ k := fun e => by rw [← e, hl] at hc; cases hc
          have hV2 : (V.putObj (w.heap.size + 1) (.loop { rec .ready none with state := .busy })).heap[k]? = W.heap[k]? := (World.putObj_heap_other (fun e => hne (by omega))).trans hV
          exact (World.putObj_heap_other (fun e => hne (by omega))).trans ((hk3.bytes k cs fz (hV2.trans hc)).trans hV2)
      | ret =>
        obtain ⟨hk3, hi3⟩ := hp
        obtain ⟨hr, hl4, hd4⟩ := fin (some .ret) V3 hk3
        exact ⟨_, _, hr, .inr ⟨rfl, .ret, putX _ hi3, hl4, hd4⟩⟩
      | exit id =>
        obtain ⟨hk3, hi3⟩ := hp
        obtain ⟨hr, hl4, hd4⟩ := fin (some (.exit id)) V3 hk3
        exact ⟨_, _, hr, .inr ⟨rfl, .exit id, putX _ hi3, hl4, hd4⟩⟩
      | goto t =>
        obtain ⟨hk3, hi3⟩ := hp
        obtain ⟨hr, hl4, hd4⟩ := fin (some (.goto t)) V3 hk3
        exact ⟨_, _, hr, .inr ⟨rfl, .goto t, putX _ hi3, hl4, hd4⟩⟩
      | panic ch => exact hp.elim
      | outgrown => exact hp.elim
    case behind =>
      rintro e W2 ⟨⟨v, rfl⟩, (⟨B, xs, hB, hS, hi, hl, hd⟩ | ⟨B, pre, hB, hSp, c, hi, hl, hd⟩)⟩
      · have hrun := run_endLoop (P := P) hl (by rw [hrec]; simp)
        rw [hrec] at hrun
        exact ⟨none, _, hrun, hdone B xs _ (by omega) hS (putI _ (by omega) hi) ((World.putObj_heap_other (by omega)).trans hd)⟩
      · have hrun := run_endLoop (P := P) hl (by rw [hrec]; simp)
        rw [hrec] at hrun
        exact ⟨some c, _, hrun, hstop c pre _ hSp (putX _ hi) ((World.putObj_heap_other (by omega)).trans hd)⟩

end Go.Proofs.YtfhcmmmgnkinoaaDoor
