/-
  Fixed packets: their forms are decoded as they were; none is the beginning of another one's.
-/
import Derived.Test.YtkochkhfbhjicaaGreatDoorYFW
import Derived.Test.YtkochkhfbhjicaaGreatDoorYFY
import Derived.Test.YtkochkhfbhjicaaGreatDoorZHxF4
import Derived.Test.YtkochkhfbhjicaaGreatDoorZHxF5
import Derived.Test.YtkochkhfbhjicaaGreatDoorYFU
import Derived.Test.YtkochkhfbhjicaaGreatDoorYFV
import Derived.Test.YtkochkhfbhjicaaGreatDoorYG7
namespace Go.Proofs.YtkochkhfbhjicaaGreatDoor
open Go.RowKit
set_option linter.unusedVariables false
set_option linter.unusedSimpArgs false
set_option maxRecDepth 100000

theorem Fine.fit {m : Nat} {p : Pk} (h : Fine m p) (hm : m ≤ 60) : Fit p := by
  have h1 := h.client; have h2 := h.willTopic; have h3 := h.willLoad; have h4 := h.user; have h5 := h.pass; have h6 := h.topic; have h7 := h.load; have h8 := h.codes; have h9 := h.nf; have h10 := h.np; have h11 := h.nw
  exact ⟨⟨by omega, by omega, by omega, by omega⟩, ⟨fun x hx => ⟨(h.tw x hx).1, (h.tw x hx).2.1, by have := (h.tw x hx).2.2.1; omega, by have := (h.tw x hx).2.2.2; omega⟩, fun x hx => ⟨(h.tp x hx).1, (h.tp x hx).2.1, by have := (h.tp x hx).2.2.1; omega, by have := (h.tp x hx).2.2.2; omega⟩⟩,
    ⟨by omega, by omega, by omega, by omega, by omega, by omega, by omega, by omega, by omega, by omega, by omega, fun f hf => by have := (h.tf f hf).2; omega, fun x hx => ⟨by have := (h.tp x hx).2.2.1; omega, by have := (h.tp x hx).2.2.2; omega⟩, fun x hx => ⟨by have := (h.tw x hx).2.2.1; omega, by have := (h.tw x hx).2.2.2; omega⟩⟩, h.qos, h.id, h.keep, h.wq, h.code, fun f hf => (h.tf f hf).1⟩
theorem FixQ.fineQ {v : Int} {q : Pk} (h : FixQ v q) : Fine 40 q :=
  ⟨h.sc, h.wts, h.sw, h.su, h.spl, h.tops, h.sl, by have := h.cl; omega, by have := h.fl2; omega, h.prn, h.wprn, fun f hf => ⟨(h.fl f hf).2.1, by have := (h.fl f hf).2.2; omega⟩, h.prs, h.wprs, by have := h.qos; omega, h.id, h.keep, by have := h.wq; omega, h.codel⟩
theorem lenGo_all : ∀ (L : List Pr) (m : Nat), (∀ p ∈ L, p.wf') → (∀ p ∈ L, p.ok = true) → m + (qf L).length ≤ 268435455 → vL L m = some (m + (qf L).length)
  | [], m, _, _, _ => rfl
  | p :: t, m, hw, hk, h => by
    have hl : p.lay.length = p.size := jA9 (Pr.fits (hw p (by simp)) (hk p (by simp)))
    have e : (qf (p :: t)).length = p.size + (qf t).length := by rw [show qf (p :: t) = p.lay ++ qf t from rfl, List.length_append, hl]
    rw [e] at h ⊢
    rw [vL, if_pos (hk p (by simp)), if_pos (by omega), lenGo_all t _ (fun q hq => hw q (List.mem_cons_of_mem _ hq)) (fun q hq => hk q (List.mem_cons_of_mem _ hq)) (by omega)]
    congr 1
    omega
theorem rv_nil (f i n : Nat) : rv (f + 1) i n [] 0 = (0, [], 2) := by kernel_rfl
theorem rv_cons_zero (f i n : Nat) (c : UInt8) (t : List UInt8) (h : c.toNat = 0) (hi : 0 < i) : rv (f + 1) i n (c :: t) 0 = (0, [], 3) :=
  jDb (vY c t).2.2 (by rw [(vY c t).1, j0v]; exact h) hi
theorem slice_takeO (a : Option Addr) (c : Nat) (l : List UInt8) (n : Nat) (hc : l.length ≤ c) : ∃ a5, (∀ wz : World, (Instr.sliceAt 25 (.slice a l.length c) none (some (.int .i64 ((min l.length n : Nat) : Int))) none).run Tryz.prog wz = .ok (.slice a5 (l.take n).length c) wz) ∧ (∀ w : World, Row w a (B8 l) → Row w a5 (B8 (l.take n))) ∧ ((a = none → l.length = 0 ∧ c = 0) → a5 = none → (l.take n).length = 0 ∧ c = 0) ∧ (l.take n).length ≤ c := by
  refine ⟨(if c = 0 then a else a.map (·.add 0)), fun wz => ?_, fun w hr => ?_, fun hn e => ?_, by rw [List.length_take]; omega⟩
  · rw [run_sliceAt_slice _ _ _ _ _ _ jKa, run_slice_h _ _ _ _ _ jKa .i64 _ (by omega) (by omega), sz8]
    simp only [Result.andThen, sliced, Int.toNat_natCast, List.length_take, Nat.zero_mul, Nat.sub_zero]
    rw [Nat.min_comm]
  · have h := (hr.take n).drop (k := 0) (cap := c) (by simp [B8, List.length_take]; omega)
    rw [jI0]
    simpa using h
  · have : a = none := by
      revert e
      split
      · exact id
      · cases a <;> simp
    have := hn this
    rw [List.length_take]
    omega
theorem eN_0 {v : Int} {p : Pk} (h : qj v p = true) : eN v p = 0 := if_pos h
theorem chk_ok9 : ∀ (L : List Pr) {k : Int} (q : Option Nat), j09 k q L = true → ∀ x ∈ L, x.ok = true
  | [], _, _, _ => by simp
  | p :: t, k, q, h => by
    unfold j09 at h
    simp only [Bool.and_eq_true] at h
    intro x hx
    rcases List.mem_cons.1 hx with rfl | hx
    · have := h.1; unfold j06 at this; simp only [Bool.and_eq_true] at this; exact this.1
    · exact chk_ok9 t _ h.2.2.2 x hx
theorem check_ok9 {k : Int} {L : List Pr} (h : ql k L = true) : ∀ p ∈ L, p.ok = true := by
  unfold ql at h
  simp only [Bool.and_eq_true] at h
  exact chk_ok9 L none h.2.1
theorem small_lay9 : ∀ (L : List Pr), (∀ p ∈ L, p.wf') → (∀ p ∈ L, p.ok = true) → (∀ x ∈ L, x.a.size ≤ 300 ∧ x.b.size ≤ 300) → (qf L).length ≤ L.length * 609
  | [], _, _, _ => by simp [qf]
  | p :: t, hw, hk, hs => by
    have hl : p.lay.length = p.size := jA9 (Pr.fits (hw p (by simp)) (hk p (by simp)))
    have h1 := jEv (hs p (by simp))
    have h2 := small_lay9 t (fun q hq => hw q (List.mem_cons_of_mem _ hq)) (fun q hq => hk q (List.mem_cons_of_mem _ hq)) (fun q hq => hs q (List.mem_cons_of_mem _ hq))
    rw [show qf (p :: t) = p.lay ++ qf t from rfl, List.length_append, hl, List.length_cons]
    omega
theorem len_of9 {k : Int} {L : List Pr} (hc : ql k L = true) (hn : L.length ≤ 10) (hs : ∀ x ∈ L, x.id < 256 ∧ x.n < 4294967296 ∧ x.a.size ≤ 32 ∧ x.b.size ≤ 32) : ∃ n, vL L 0 = some n := by
  have hw : ∀ p ∈ L, p.wf' := fun p hp => by
    have := hs p hp
    exact ⟨this.1, this.2.1, by omega, by omega⟩
  have hk := check_ok9 hc
  have h1 := small_lay9 L hw hk (fun x hx => by have := hs x hx; omega)
  exact ⟨_, lenGo_all L 0 hw hk (by omega)⟩
theorem bare_pr (p : Pk) : ((jP p).props = p.props ∨ (jP p).props = []) ∧ ((jP p).willProps = p.willProps ∨ (jP p).willProps = []) := by
  unfold jP
  repeat' split
  all_goals first | exact ⟨.inl rfl, .inr rfl⟩ | exact ⟨.inr rfl, .inr rfl⟩ | (cases h : p.hasWill <;> simp [zk])
theorem fix_lays {v : Int} {Q : Pk} (h : FixQ v Q) : j3u v (jP Q) ∧ xZ (jP Q) = jP Q := by
  obtain ⟨b1, b2⟩ := bare_pr Q
  have e1 : ∃ n, vL (jP Q).props 0 = some n := by
    rcases b1 with b | b <;> rw [b]
    · exact len_of9 h.pr h.prn h.prs
    · exact ⟨_, rfl⟩
  have e2 : ∃ n, vL (jP Q).willProps 0 = some n := by
    rcases b2 with b | b <;> rw [b]
    · exact len_of9 h.wpr h.wprn h.wprs
    · exact ⟨_, rfl⟩
  refine ⟨⟨.inr e1, .inr e2, fun h4 => ?_, fun h4 => ?_⟩, ?_⟩
  · rcases b1 with b | b <;> rw [b]
    exact (h.pr4 h4).1
  · rcases b2 with b | b <;> rw [b]
    exact (h.pr4 h4).2
  · have c1 : jX (jP Q).props = (jP Q).props := by
      rcases b1 with b | b <;> rw [b]
      · exact jAt h.srt
      · exact jAt List.Pairwise.nil
    have c2 : jX (jP Q).willProps = (jP Q).willProps := by
      rcases b2 with b | b <;> rw [b]
      · exact jAt h.wsrt
      · exact jAt List.Pairwise.nil
    unfold xZ
    rw [c1, c2]
structure Fx9 (v : Int) (q : Pk) : Prop where
  fine : Fine 40 q
  right : qj v q = true
  lays : j3u v q
  can : xZ q = q
theorem Aw.no {B : Nat} {P : Pk} {s : Sl} {w w' : World} (h : Aw B P s w) (hk : Kept No w w') : Aw B P s w' := ⟨h.at_.kept hk, h.sc, h.lo⟩
theorem Aw.st {B b : Nat} {P : Pk} {s : Sl} {w w' : World} {ty : TypeId} {c : Array Value} (h : Aw B P s w) (hk : Kept (One b) w w') (hb : Blk w b ty c) (hn : NoU c) (hlt : b < B) : Aw B P s w' := h.fin hk hb hn hlt (Nat.le_refl _)
def Fix9R (v : Int) (B : Nat) (vv : Value) (ww : World) : Prop := ∃ q s1, vv = Pk.val q s1 ∧ Aw B q s1 ww ∧ Fx9 v q
theorem fix9_full (v : Int) (p : Pk) (s : Sl) (w : World) (B : Nat) (hB : B = w.heap.size) (hv : v = 4 ∨ v = 5) (hp : p.At s w) (hY : Any p) :
    Calls Tryz.prog 4 #[.int .i64 v, p.val s] w fun e w' => ∃ vv, e = .returned vv ∧ Fix9R v B vv w' ∧ Kept No w w' := by
  subst hB
  have key : ∀ e w', j9j v w e w' → ∃ vv, e = .returned vv ∧ Fix9R v w.heap.size vv w' ∧ Kept No w w' := by
    rintro e w' ⟨q, s', rfl, hA, ⟨Q, rfl, hQ⟩, hc, hk, hlo⟩
    have hF := hQ.fineQ.bare
    obtain ⟨hL, hC⟩ := fix_lays hQ
    exact ⟨_, rfl, ⟨_, _, rfl, ⟨hA, hc, fun b off => ⟨fun e _ => (hlo b off).1 e, fun e _ => (hlo b off).2 e⟩⟩, ⟨hF, by rw [jHa v _ (hF.fit (by decide)).opt (jAk (hF.small (by decide)))]; exact hQ.right hv, hL, hC⟩⟩, hk⟩
  rcases hv with rfl | rfl
  · exact (jLk p s w hp hY).mono key
  · exact (jLl p s w hp hY).mono key
theorem Fx9.fit {v : Int} {q : Pk} (h : Fx9 v q) : Fit q := h.fine.fit (by decide)
/-- Two forms are the same just if the packets are. -/
theorem enc_inj {v : Int} {p q : Pk} (hp : Fx9 v p) (hq : Fx9 v q) : xp v p = xp v q ↔ p = q := by
  refine ⟨fun h => ?_, fun h => by rw [h]⟩
  have h1 := (jFg hp.right hp.fit hp.lays hp.can).2
  have h2 := (jFg hq.right hq.fit hq.lays hq.can).2
  rw [← h1, ← h2, h]
theorem ba_inj {l m : List UInt8} (h : (⟨l.toArray⟩ : ByteArray) = ⟨m.toArray⟩) : l = m := by
  have h2 : l.toArray = m.toArray := by injection h
  simpa using h2
theorem enc_same {v : Int} {p q : Pk} (hp : Fx9 v p) (hq : Fx9 v q) : decide ((⟨(xp v p).toArray⟩ : ByteArray) = (⟨(xp v q).toArray⟩ : ByteArray)) = decide (p = q) := by
  by_cases h : p = q
  · subst h; simp
  · rw [decide_eq_false h, decide_eq_false (fun e => h ((enc_inj hp hq).1 (ba_inj e)))]
theorem rv_app : ∀ (f i n : Nat) (l m : List UInt8), (rv f i n l 0).2.2 = 0 → rv f i n (l ++ m) 0 = ((rv f i n l 0).1, (rv f i n l 0).2.1 ++ m, 0)
  | 0, i, n, l, m, h => absurd h (show (3 : Int) ≠ 0 by decide)
  | f + 1, i, n, [], m, h => by rw [rv_nil] at h; exact absurd h (show (2 : Int) ≠ 0 by decide)
  | f + 1, i, n, c :: t, m, h => by
    rw [List.cons_append]
    by_cases h1 : 128 ≤ c.toNat
    · rw [j98 f i n c t h1] at h ⊢
      rw [j98 f i n c (t ++ m) h1]
      exact rv_app f _ _ t m h
    · by_cases h2 : c.toNat = 0 ∧ 0 < i
      · rw [rv_cons_zero f i n c t h2.1 h2.2] at h
        exact absurd h (show (3 : Int) ≠ 0 by decide)
      · rw [j97 f i n c t (by omega) h2, j97 f i n c (t ++ m) (by omega) h2]
theorem head_pre {l m : List UInt8} (h0 : j21 l = 0) : j21 (l ++ m) = 0 ∧ (j12 (l ++ m)).head + ((j12 (l ++ m)).rest : Int) = (j12 l).head + ((j12 l).rest : Int) := by
  cases l with
  | nil => exact absurd h0 (by decide +kernel)
  | cons c t =>
    have hS : ∀ t : List UInt8, j0m (c :: t) = rv 4 0 0 t 0 := fun t => by
      have l1 : qt 1 (c :: t) 0 = t := by unfold qt; rw [if_pos rfl, if_pos ⟨by decide, by simp only [List.length_cons]; omega⟩]; rfl
      have e1 : qq 1 (c :: t) 0 = 0 := by unfold qq; rw [if_pos rfl, if_pos ⟨by decide, by simp only [List.length_cons]; omega⟩]
      unfold j0m
      rw [l1, e1]
    obtain ⟨a1, a2⟩ := jE2 (c :: t)
    obtain ⟨b1, b2⟩ := jE2 (c :: (t ++ m))
    rw [a1, hS] at h0
    have h9 := rv_app 4 0 0 t m h0
    have e2 : (j0m (c :: (t ++ m))).2.2 = 0 := by rw [hS, h9]
    refine ⟨by rw [List.cons_append, b1, e2], ?_⟩
    rw [List.cons_append, b2 e2, a2 (by rw [hS]; exact h0), hS, hS, h9]
    simp only [List.length_cons, List.length_append]
    omega
/-- None is the beginning of another one. -/
theorem enc_pre {v : Int} {p q : Pk} (hp : Fx9 v p) (hq : Fx9 v q) (hlt : (xp v p).length < (xp v q).length) : (xp v q).take (xp v p).length ≠ xp v p := by
  intro h
  obtain ⟨a1, a2, a3, a4⟩ := jFj hp.right hp.fit
  obtain ⟨b1, b2, b3, b4⟩ := jFj hq.right hq.fit
  have e : xp v q = xp v p ++ (xp v q).drop (xp v p).length := by
    conv => lhs; rw [← List.take_append_drop (xp v p).length (xp v q), h]
  have h9 := head_pre (l := xp v p) (m := (xp v q).drop (xp v p).length) a1
  rw [← e, b2, a2] at h9
  have h8 := h9.2
  dsimp only at h8
  omega
/-- What Encode answers, and that there is room for it. -/
def EncR (v : Int) (p : Pk) (u : Value) (w : World) : Prop := ∃ a c, u = .tuple #[.slice a (xp v p).length c, .int .i64 (eN v p : Int)] ∧ Row w a (B8 (xp v p)) ∧ (a = none → c = 0) ∧ (xp v p).length ≤ c
theorem own_cap8 {w : World} {base n c size : Nat} {e : TypeId} {a : Option Addr} {xs : List Value} (h : w.ownsRow base e size (.slice a n c) n xs) : n ≤ c := by
  rcases h.2 with ⟨hv, h0⟩ | ⟨g, cap, cur, hv, hg, hb, hn, hm, hs, hx⟩
  · omega
  · injection hv with e1 e2 e3
    omega
theorem encR {v : Int} {p : Pk} {w : World} {f : Nat} {args : Array Value} (h : Calls Tryz.prog f args w fun e w' => ∃ u, e = .returned u ∧ j9i v p w u w' ∧ Kept No w w') : Calls Tryz.prog f args w fun e w' => ∃ u, e = .returned u ∧ EncR v p u w' ∧ Kept No w w' := by
  refine h.mono fun e w' ⟨u, h1, ⟨a, c, h2, h3⟩, h4⟩ => ⟨u, h1, ⟨a, c, ?_, (ju h3).1, fun e => ((ju h3).2 e).2, own_cap8 h3⟩, h4⟩
  rw [h2]
  unfold eN
  split <;> rfl
end Go.Proofs.YtkochkhfbhjicaaGreatDoor
