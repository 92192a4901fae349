/-
  Contracts and plain facts, one behind the other: PxT PxU PxQ PxR PxS PxV.
-/
import Derived.Test.YtfcgfkgibimffaaDoorYF4
import Derived.Test.YtfcgfkgibimffaaDoorYF5
import Derived.Lib.ConvBytes
import Derived.Test.YtfcgfkgibimffaaDoorYF3
import Derived.Test.YtfcgfkgibimffaaDoorYF2
import Derived.Deep.RegionHeld3
/-
  props.Take.
-/
namespace Go.Proofs.YtfcgfkgibimffaaDoor
open Go.RowKit
attribute [local go_sem] Oper.semAt_some
set_option linter.unusedVariables false
set_option linter.unusedSimpArgs false
set_option maxRecDepth 100000

def takeSec (l : List UInt8) (err : Int) : List UInt8 := taken (rv 4 0 0 l err).1 (rv 4 0 0 l err).2.1 (rv 4 0 0 l err).2.2
def takeLeft (l : List UInt8) (err : Int) : List UInt8 := leftL (rv 4 0 0 l err).1 (rv 4 0 0 l err).2.1 (rv 4 0 0 l err).2.2
def takeErr (l : List UInt8) (err : Int) : Int := leftE (rv 4 0 0 l err).1 (rv 4 0 0 l err).2.1 (rv 4 0 0 l err).2.2
def takeR (l : List UInt8) (err : Int) : List Pr × Bool :=
  if takeErr l err = 0 then (if (eachL (takeSec l err)).2 then (sortL (eachL (takeSec l err)).1, true) else ([], false)) else ([], false)
def TakeIs (R : List Pr × Bool) (l2 : List UInt8) (e2 : Int) (w : World) (r : Nat) (e : Ending) (w' : World) : Prop :=
  ∃ a c, e = .returned (.tuple #[.slice a R.1.length c, .bool R.2]) ∧ Row w' a (PC R.1) ∧ (a = none → R.1.length = 0 ∧ c = 0) ∧ After w w' r l2 e2
def SortAt (X : List Pr) : Prop := ∀ (a : Option Addr) (c : Nat) (wx : World), Row wx a (PC X) → (a = none → X.length = 0 ∧ c = 0) → Calls Tryd.prog 29 #[.slice a X.length c] wx (OwnP 55 wx (sortL X))

/-- The two cells of the results. -/
def Twin (p : Nat) : Nat → Prop := fun k => k = p ∨ k = p + 1
theorem bytes_world (w : World) (l : List UInt8) : Kept No w (Lib.bytesWorld w 5 ⟨l.toArray⟩) ∧ Row (Lib.bytesWorld w 5 ⟨l.toArray⟩) (some ⟨w.heap.size, 0, none⟩) (B8 l) := by
  refine ⟨⟨rfl, rfl, rfl, by rw [Lib.bytesWorld_size]; omega, fun k hk _ => Lib.bytesWorld_at_old w _ _ k hk⟩, .of_cells fun j u hu => ?_⟩
  have hj : j < l.length := by
    have := (List.getElem?_eq_some_iff.1 hu).1
    simpa using this
  rw [B8_get l j hj] at hu
  have h1 := Lib.bytesWorld_cell w 5 ⟨l.toArray⟩ j (by rw [ba_size]; exact hj)
  have e : (⟨w.heap.size, 0, none⟩ : Addr).add j = ⟨w.heap.size, j, none⟩ := by simp [Addr.add]; intro h; exact h.symm
  rw [e, h1, ← hu]
  simp [List.getD, List.getElem?_eq_getElem hj]
theorem Tabs.keptS {w w1 w2 : World} {S : Nat → Prop} (h0 : Tabs w) (h : Tabs w1) (hk : Kept S w1 w2) (hS : ∀ k, S k → w.heap.size ≤ k) : Tabs w2 := by
  have n1 : ¬ S (Tryd.laysValid_ren.g 3) := fun e => by have := hS _ e; have h9 : Tryd.laysValid_ren.g 3 < w.heap.size := cell_lt (h0.1 0 (by decide)); omega
  have n2 : ¬ S (Tryd.laysValid_ren.g 4) := fun e => by have := hS _ e; have h9 : Tryd.laysValid_ren.g 4 < w.heap.size := cell_lt (h0.2 0 (by decide)).1; omega
  exact ⟨fun c hc => (hk.cell (p := ⟨_, c, none⟩) (cell_lt (h.1 c hc)) n1).trans (h.1 c hc),
   fun i hi => ⟨(hk.cell (p := ⟨_, 2 * i, none⟩) (cell_lt (h.2 i hi).1) n2).trans (h.2 i hi).1, (hk.cell (p := ⟨_, 2 * i + 1, none⟩) (cell_lt (h.2 i hi).2) n2).trans (h.2 i hi).2⟩⟩

/-- Between two rounds of Take's loop. -/
def TI (p q : Nat) (wL : World) (B : Nat) (pre : List (Pr × Bool)) (W : World) : Prop :=
  ∃ v, (∀ x ∈ pre, x.2 = true) ∧ Blk W p 27 #[.slice none 0 0] ∧ Blk W (p + 1) 4 #[.bool false] ∧ Blk W q 27 #[v] ∧
    W.ownsRow B 55 4 v pre.length (PC (pre.map Prod.fst)) ∧ Kept (One q) wL W
/-- A round has left. -/
def TX (p q : Nat) (wL : World) (c : Code) (pre : List (Pr × Bool)) (W : World) : Prop :=
  c = .ret ∧ (∃ d x, pre = d ++ [x] ∧ x.2 = false) ∧ Blk W p 27 #[.slice none 0 0] ∧ Blk W (p + 1) 4 #[.bool false] ∧ Kept (fun k => Twin p k ∨ k = q) wL W
theorem TI.abides {p q : Nat} {wL : World} {B z : Nat} {pre : List (Pr × Bool)} {A A' : World} (hp : p + 1 < z) (hq : q < z) (hzL : wL.heap.size ≤ z) (h : TI p q wL B pre A) (hk : Kept (Mid z B) A A') : TI p q wL B pre A' := by
  obtain ⟨v, h1, b1, b2, b3, ho, hw⟩ := h
  have n : ∀ k, k < z → ¬ Mid z B k := fun k hk hm => by have := hm.1; omega
  exact ⟨v, h1, b1.kept hk (n _ (by omega)), b2.kept hk (n _ (by omega)), b3.kept hk (n _ hq), own_mid ho hk, hw.then hk fun i hi hm => by have := hm.1; omega⟩
theorem TX.abides {p q : Nat} {wL : World} {z : Nat} {c : Code} {pre : List (Pr × Bool)} {A A' : World} (hp : p + 1 < z) (hq : q < z) (hzL : wL.heap.size ≤ z) (h : TX p q wL c pre A) (hk : Kept (Mid z (z + 2)) A A') : TX p q wL c pre A' := by
  obtain ⟨hc, h1, b1, b2, hw⟩ := h
  have n : ∀ k, k < z → ¬ Mid z (z + 2) k := fun k hk hm => by have := hm.1; omega
  exact ⟨hc, h1, b1.kept hk (n _ (by omega)), b2.kept hk (n _ (by omega)), hw.then hk fun i hi hm => by have := hm.1; omega⟩

theorem TX.leave {p q z B : Nat} {wL W : World} {pre : List (Pr × Bool)} {x : Pr × Bool} (hp : p + 1 < z) (hq : q < z) (hzB : z + 2 ≤ B) (hB : B ≤ W.heap.size) (hx : x.2 = false)
    {u1 u2 : Value} (b1 : Blk W p 27 #[u1]) (b2 : Blk W (p + 1) 4 #[u2]) (hw : Kept (One q) wL W) :
    Holds2 z B W ((W.setCell ⟨p, 0, none⟩ (.slice none 0 0)).setCell ⟨p + 1, 0, none⟩ (.bool false)) ∧ TX p q wL .ret (pre ++ [x]) ((W.setCell ⟨p, 0, none⟩ (.slice none 0 0)).setCell ⟨p + 1, 0, none⟩ (.bool false)) := by
  have hk : Kept (Twin p) W ((W.setCell ⟨p, 0, none⟩ (.slice none 0 0)).setCell ⟨p + 1, 0, none⟩ (.bool false)) :=
    ((Kept.refl _ W).setCell (p := ⟨p, 0, none⟩) (.inr (.inl rfl)) _).setCell (p := ⟨p + 1, 0, none⟩) (.inr (.inr rfl)) _
  refine ⟨hk.holds2 hB (fun k h1 h2 hS => by rcases hS with h | h <;> omega) (fun k cs fz hS hx => ?_), rfl, ⟨pre, x, rfl, hx⟩, ?_, ?_, ?_⟩
  · rcases hS with h | h
    · subst h; unfold Blk at b1; rw [b1] at hx; injection hx with hx; injection hx with _ h2 _; exact absurd h2 (by decide)
    · subst h; unfold Blk at b2; rw [b2] at hx; injection hx with hx; injection hx with _ h2 _; exact absurd h2 (by decide)
  · have := (b1.set_ 0 (.slice none 0 0)).far (p := ⟨p + 1, 0, none⟩) (by simp) (.bool false)
    simpa using this
  · have := (b2.far (p := ⟨p, 0, none⟩) (by simp) (.slice none 0 0)).set_ 0 (.bool false)
    simpa using this
  · exact (hw.mono fun k _ h => .inr h).trans (hk.mono fun k _ h => .inl h)

theorem TI.next {p q z B : Nat} {wL W W4 : World} {pre : List (Pr × Bool)} {x : Pr} {v v4 : Value} {o : Obj} (hp : p + 1 < z) (hq : q < z) (hpq : p + 1 < q) (hzB : z + 2 ≤ B) (hB : B ≤ W.heap.size) (hall : ∀ y ∈ pre, y.2 = true)
    {u0 : Value} (b1 : Blk W p 27 #[.slice none 0 0]) (b2 : Blk W (p + 1) 4 #[.bool false]) (b3 : Blk W q 27 #[u0]) (ho : W.ownsRow B 55 4 v pre.length (PC (pre.map Prod.fst))) (hw : Kept (One q) wL W) (hLz : wL.heap.size ≤ z)
    (hg : (W.alloc o).grownBy W4 v.ownBlock) (ho4 : W4.ownsRow B 55 4 v4 (pre.length + 1) (PC (pre.map Prod.fst) ++ PC [x])) :
    Holds2 z B W (W4.setCell ⟨q, 0, none⟩ v4) ∧ TI p q wL B (pre ++ [(x, true)]) (W4.setCell ⟨q, 0, none⟩ v4) := by
  have hkg : Kept (fun k => k = q ∨ v.ownBlock = some k) W W4 := ((Kept.refl _ W).alloc o).grown hg (fun k e => .inr (.inr e))
  have hk : Kept (fun k => k = q ∨ v.ownBlock = some k) W (W4.setCell ⟨q, 0, none⟩ v4) := hkg.setCell (p := ⟨q, 0, none⟩) (.inr (.inl rfl)) v4
  have hne : ∀ k, k < z → v.ownBlock ≠ some k := fun k hk e => by have := (ho.lt k e).1; omega
  have up : ∀ {g t cs}, g < z → Blk W g t cs → Blk W4 g t cs := fun hg4 hb => (hb.alloc o).grown hg (hne _ hg4)
  refine ⟨hk.holds2 hB (fun k h1 h2 hS => ?_) (fun k cs fz hS hx => ?_), v4, ?_, (up (by omega) b1).far (p := ⟨q, 0, none⟩) (by simp; omega) v4, (up (by omega) b2).far (p := ⟨q, 0, none⟩) (by simp; omega) v4, ?_, ?_, ?_⟩
  · rcases hS with h | h
    · omega
    · have := (ho.lt k h).1; omega
  · rcases hS with h | h
    · subst h; unfold Blk at b3; rw [b3] at hx; injection hx with hx; injection hx with _ h2 _; exact absurd h2 (by decide)
    · rcases ho.2 with ⟨hv, _⟩ | ⟨g, cap, cur, hv, _, hgg, _⟩
      · subst hv; cases h
      · subst hv
        injection h with h
        subst h
        rw [hgg] at hx
        injection hx with hx
        injection hx with _ h2 _
        exact absurd h2 (by decide)
  · intro y hy
    rcases List.mem_append.1 hy with h | h
    · exact hall y h
    · rw [List.mem_singleton.1 h]
  · have := (up hq b3).set_ 0 v4
    simpa using this
  · have h5 := own_ne ho4 ((Kept.refl (One q) W4).setCell (p := ⟨q, 0, none⟩) (.inr rfl) v4) (fun g hg4 e => by have : g = q := e; omega)
    rw [List.length_append, List.map_append, PC_append]
    exact h5
  · exact hw.then hk fun i hi hS => by
      rcases hS with h | h
      · exact h
      · have := (ho.lt i h).1; omega

theorem after_end {w wL W9 : World} {r p q : Nat} {l2 : List UInt8} {u1 u2 u3 : Array Value} (hr : Rdr wL r l2 0) (hk : Kept (One r) w wL) (hk9 : Kept (fun k => Twin p k ∨ k = q) wL W9) (hz : ∀ k, (Twin p k ∨ k = q) → w.heap.size ≤ k ∧ k ≠ r)
    (b1 : Blk wL p 27 u1) (b2 : Blk wL (p + 1) 4 u2) (b3 : Blk wL q 27 u3) : After w W9 r l2 0 := by
  refine ⟨hr.keptTyp hk9 (fun hS => (hz r hS).2 rfl) (fun b hS cs fz hx => ?_), hk.then hk9 fun i hi hS => by have := (hz i hS).1; omega⟩
  rcases hS with (h | h) | h
  · subst h; unfold Blk at b1; rw [b1] at hx; injection hx with hx; injection hx with _ h2 _; exact absurd h2 (by decide)
  · subst h; unfold Blk at b2; rw [b2] at hx; injection hx with hx; injection hx with _ h2 _; exact absurd h2 (by decide)
  · subst h; unfold Blk at b3; rw [b3] at hx; injection hx with hx; injection hx with _ h2 _; exact absurd h2 (by decide)
/-- Behind the assignment to the loop's variables. -/
def TAx (r s p q Bn n z : Nat) (sec : List UInt8) (a0 : Option Addr) (c0 : Nat) (x : Pr × Bool) (a' : Act) (W : World) : Prop :=
  ∃ b, z ≤ b ∧ Blk W b 55 #[.int .u8 x.1.id, .int .u32 x.1.n, .string x.1.a, .string x.1.b] ∧ a' = { tmps := #[.pointer (some ⟨r, 0, none⟩), undef, .pointer (some ⟨p, 0, none⟩), .pointer (some ⟨p + 1, 0, none⟩), .int .u32 n, .pointer (some ⟨s, 0, none⟩), .pointer (some ⟨q, 0, none⟩),
    .pointer (some ⟨b, 0, none⟩), .bool x.2, .pointer (some ⟨r, 0, none⟩), .int .u32 n, .pointer (some ⟨r, 0, none⟩), .int .u32 n, .int .i64 n, .pointer (some ⟨s, 0, none⟩), .pointer (some ⟨s, 0, none⟩), .int .i64 0, .bool false, .pointer (some ⟨s, 0, none⟩), .string ⟨sec.toArray⟩, .slice a0 sec.length c0, .func (.func 92) #[] #[.pointer (some ⟨Bn, 0, none⟩)],
    .agg #[.int .u8 x.1.id, .int .u32 x.1.n, .string x.1.a, .string x.1.b], .bool x.2, undef, undef, undef, undef, undef, undef, undef, undef], defers := [] }
theorem TAx.abides {r s p q Bn n z : Nat} {sec : List UInt8} {a0 : Option Addr} {c0 : Nat} {x : Pr × Bool} {a' : Act} {A A' : World} (h : TAx r s p q Bn n (z + 2) sec a0 c0 x a' A) (hk : Kept (Mid z (z + 2)) A A') : TAx r s p q Bn n (z + 2) sec a0 c0 x a' A' := by
  obtain ⟨b, hb, hB, he⟩ := h
  exact ⟨b, hb, hB.kept hk (fun hm => by have := hm.2; omega), he⟩

set_option maxHeartbeats 4000000 in
theorem ptake_any (w : World) (r : Nat) (l : List UInt8) (err : Int) (h : Rdr w r l err) (hl : l.length ≤ 100000) (hT : Tabs w) (HS : takeErr l err = 0 → (eachL (takeSec l err)).2 = true → SortAt (eachL (takeSec l err)).1) :
    Calls Tryd.prog 18 #[.pointer (some ⟨r, 0, none⟩)] w (TakeIs (takeR l err) (takeLeft l err) (takeErr l err) w r) := by
  obtain ⟨i0, hi, hz0, hz1, hz2⟩ := info_parts info_prop
  have hrl := h.lt
  have hsec : (takeSec l err).length ≤ 100000 := by
    have h1 := (rv_suf 4 0 0 l err).length_le
    unfold takeSec taken
    split
    · rw [List.length_take]; omega
    · simp
  have hv32 : (rv 4 0 0 l err).1 < 4294967296 := by have := rv_lt 4 0 0 l err (by decide); omega
  have cV := fun wx (hx : Rdr wx r l err) => rvar_any wx r l err hx
  have cS := fun wx (hx : Rdr wx r (rv 4 0 0 l err).2.1 (rv 4 0 0 l err).2.2) => sub_any wx r _ _ (rv 4 0 0 l err).1 hx
  have hTS : (takeSec l err) = taken (rv 4 0 0 l err).1 (rv 4 0 0 l err).2.1 (rv 4 0 0 l err).2.2 := rfl
  have hTL : (takeLeft l err) = leftL (rv 4 0 0 l err).1 (rv 4 0 0 l err).2.1 (rv 4 0 0 l err).2.2 := rfl
  have hTE : (takeErr l err) = leftE (rv 4 0 0 l err).1 (rv 4 0 0 l err).2.1 (rv 4 0 0 l err).2.2 := rfl
  rw [← hTS, ← hTL, ← hTE] at cS
  clear hTS hTL hTE
  generalize hR : takeR l err = R
  unfold takeR at hR
  generalize takeSec l err = sec at *
  generalize takeLeft l err = l2 at *
  generalize takeErr l err = e2 at *
  generalize rv 4 0 0 l err = VV at *
  obtain ⟨n, l1, e1⟩ := VV
  dsimp only at cS hv32
  have hwn : IntKind.i64.wrap (n : Int) = (n : Int) := by rw [IntKind.wrap_i64]; omega
  refine (callsIn_wide (n := 3)).1 ?_
  refine callsIn_of_wp_marks Tryd.func18 rfl trivial ?_ rfl
  simp only [Tryd.ntmps18, List.size_toArray, List.length_cons, List.length_nil, Nat.reduceAdd, Nat.reduceSub, Array.replicate_succ, Array.replicate_zero, List.push_toArray, List.append_toArray, List.nil_append, List.cons_append]
  gi_wp2_with fail
  have hb1 := (Blk.new w 27 #[.slice none 0 0]).alloc (.cells #[.bool false] 4)
  have hb2 := Blk.new (w.alloc (.cells #[.slice none 0 0] 27)) 4 #[.bool false]
  have hkA : Kept No w ((w.alloc (.cells #[.slice none 0 0] 27)).alloc (.cells #[.bool false] 4)) := ((Kept.refl No w).alloc _).alloc _
  have hsA : ((w.alloc (.cells #[.slice none 0 0] 27)).alloc (.cells #[.bool false] 4)).heap.size = w.heap.size + 2 := by simp
  simp only [World.size_alloc] at hb2
  generalize (w.alloc (.cells #[.slice none 0 0] 27)).alloc (.cells #[.bool false] 4) = wA at *
  have hrA := h.keptNo hkA
  refine ⟨trivial, (callsIn_wide.2 (cV wA hrA)).mono ?_⟩
  rintro e wV ⟨rfl, haV⟩
  have hTV : Tabs wV := (hT.kept hkA).keptRdr hrA haV.kept
  have hkV : Kept (One r) w wV := hkA.any.trans haV.kept
  have hsV := haV.kept.size
  have n1 : ¬ One r w.heap.size := fun e => by have : w.heap.size = r := e; omega
  have n2 : ¬ One r (w.heap.size + 1) := fun e => by have : w.heap.size + 1 = r := e; omega
  have hb1 := hb1.kept haV.kept n1
  have hb2 := hb2.kept haV.kept n2
  have hrV := haV.rdr
  have hzV : w.heap.size + 2 ≤ wV.heap.size := by omega
  clear hkA hsA h hrA cV haV hsV
  dsimp only at hrV
  gi_wp2_with fail
  refine ⟨trivial, (callsIn_wide.2 (cS wV hrV)).mono ?_⟩
  rintro e w2 ⟨s, rfl, hsl, hrs, ha2⟩
  have hT2 : Tabs w2 := hTV.keptRdr hrV ha2.kept
  have hk2 : Kept (One r) w w2 := hkV.trans ha2.kept
  have hb1 := hb1.kept ha2.kept n1
  have hb2 := hb2.kept ha2.kept n2
  have hr2 := ha2.rdr
  have hs2 := ha2.kept.size
  clear cS ha2 hTV hkV hrV
  gi_wp2_with fail
  refine ⟨trivial, (callsIn_wide.2 (err_any w2 s sec e2 hrs)).mono ?_⟩
  rintro e w3 ⟨rfl, rfl⟩
  have p1 := hb1.cell 0
  have p2 := hb2.cell 0
  simp at p1 p2
  have f1 := hb1.frozen 0
  have f2 := hb2.frozen 0
  by_cases he : e2 = 0
  case neg =>
    have heI : (e2 == 0) = false := by simpa using he
    have heN : (e2 != 0) = true := by simpa using he
    rw [if_neg he] at hR
    subst hR
    have HE := Lib.hid he
    clear he
    gi_wp2
    generalize hW9 : ((w2.setCell ⟨w.heap.size, 0, none⟩ (.slice none 0 0)).setCell ⟨w.heap.size + 1, 0, none⟩ (.bool false)) = W9 at *
    have e1 : Blk W9 w.heap.size 27 #[.slice none 0 0] := by
      have := (hb1.set_ 0 (.slice none 0 0)).far (p := ⟨w.heap.size + 1, 0, none⟩) (by simp) (.bool false)
      rw [← hW9]; simpa using this
    have e2 : Blk W9 (w.heap.size + 1) 4 #[.bool false] := by
      have := (hb2.far (p := ⟨w.heap.size, 0, none⟩) (by simp) (.slice none 0 0)).set_ 0 (.bool false)
      rw [← hW9]; simpa using this
    have hk9 : Kept (Twin w.heap.size) w2 W9 := by rw [← hW9]; exact ((Kept.refl _ w2).setCell (p := ⟨w.heap.size, 0, none⟩) (.inr (.inl rfl)) _).setCell (p := ⟨w.heap.size + 1, 0, none⟩) (.inr (.inr rfl)) _
    have y1 := e1.cell 0
    have y2 := e2.cell 0
    simp at y1 y2
    have yl1 := e1.lt
    have yl2 := e2.lt
    clear hW9
    refine ⟨.tuple #[.slice none 0 0, .bool false], by simp [results, Tryd.results18, go_sem, y1, y2, yl1, yl2], ?_⟩
    refine ⟨none, 0, rfl, .nil _ _, by simp, ?_, ?_⟩
    · refine hr2.keptTyp hk9 (fun hS => by rcases hS with h | h <;> omega) (fun b hS cs fz hx => ?_)
      rcases hS with h | h
      · subst h; unfold Blk at hb1; rw [hb1] at hx; injection hx with hx; injection hx with _ h2 _; exact absurd h2 (by decide)
      · subst h; unfold Blk at hb2; rw [hb2] at hx; injection hx with hx; injection hx with _ h2 _; exact absurd h2 (by decide)
    · exact hk2.then hk9 fun i hi hS => by rcases hS with h | h <;> omega
  subst he
  rw [if_pos rfl] at hR
  have HSO := Lib.hid (HS rfl)
  clear HS
  gi_wp2_with fail
  have hb3 := Blk.new w2 27 #[.slice none 0 0]
  have hkQ : Kept No w2 (w2.alloc (.cells #[.slice none 0 0] 27)) := (Kept.refl No w2).alloc _
  have hzQ : (w2.alloc (.cells #[.slice none 0 0] 27)).heap.size = w2.heap.size + 1 := by simp
  generalize w2.alloc (.cells #[.slice none 0 0] 27) = wQ at *
  have hrQ := hrs.keptNo hkQ
  have hsw := hrs.lt
  refine ⟨trivial, (callsIn_wide.2 (rrest_any wQ s sec 0 hrQ)).mono ?_⟩
  rintro e w3 ⟨rfl, ha3⟩
  have m1 : ¬ One s w.heap.size := fun e => by have : w.heap.size = s := e; omega
  have m2 : ¬ One s (w.heap.size + 1) := fun e => by have : w.heap.size + 1 = s := e; omega
  have m3 : ¬ One s w2.heap.size := fun e => by have : w2.heap.size = s := e; omega
  have hb1 := (hb1.kept hkQ (fun f => f)).kept ha3.kept m1
  have hb2 := (hb2.kept hkQ (fun f => f)).kept ha3.kept m2
  have hb3 := hb3.kept ha3.kept m3
  have hT3 : Tabs w3 := (hT2.kept hkQ).keptRdr hrQ ha3.kept
  have hr3 := (hr2.keptNo hkQ).kept ha3.kept (fun e => by have : r = s := e; omega) (fun b e _ => by have : b = s := e; subst this; exact hrQ.noByte)
  have hk3 : Kept (One r) w w3 := (hk2.trans hkQ.any).then ha3.kept (fun i hi e => by have : i = s := e; omega)
  have hs3 := ha3.kept.size
  clear ha3 hrQ hkQ hT2 hk2 hr2 hrs
  obtain ⟨bw1, bw2⟩ := bytes_world w3 sec
  have hcv := Lib.run_convert_string_bytes (P := Tryd.prog) w3 9 25 5 ⟨sec.toArray⟩ Tryd.underlying9 Tryd.underlying25 Tryd.underlying5
  rw [ba_size] at hcv
  generalize Lib.bytesWorld w3 5 ⟨sec.toArray⟩ = w4 at *
  generalize grownCap w3 sec.length 0 5 = c4 at *
  gi_wp2_with fail
  refine ⟨trivial, (callsIn_wide.2 (each_any _ c4 sec w4 bw2 (by simp) (by omega))).mono ?_⟩
  rintro e wL ⟨Bn, a5, c5, rfl, hcell, hrow, hnn, hkL⟩
  have hkL := bw1.trans hkL
  have hb1 := hb1.kept hkL (fun f => f)
  have hb2 := hb2.kept hkL (fun f => f)
  have hb3 := hb3.kept hkL (fun f => f)
  have hTL := hT3.kept hkL
  have hrL := hr3.keptNo hkL
  have hkR : Kept (One r) w wL := hk3.trans hkL.any
  have hzL : w2.heap.size + 1 ≤ wL.heap.size := by have := hkL.size; omega
  clear hkL bw1 bw2 hcv hT3 hr3 hk3 p1 p2 f1 f2
  gi_wp2_with fail
  refine range_law (F := Fence.wide) (n := 3) rfl (by decide) (gf := 92) (lb := #[.pointer (some ⟨Bn, 0, none⟩)]) rfl trivial (enters_of Tryd.func92 (by kernel_rfl) rfl)
    (each1_seq sec Bn a5 c5 _ wL hcell hrow hnn (by omega)) ?hps (TI w.heap.size w2.heap.size wL) (TX w.heap.size w2.heap.size wL)
    (fun B s9 A A' hB h hk => h.abides (by omega) (by omega) (Nat.le_refl _) hk) (fun B s9 A h => hT.keptS hTL h.choose_spec.2.2.2.2.2 (fun k e => by have : k = w2.heap.size := e; omega)) (fun cc s9 A A' h hk => h.abides (by omega) (by omega) (Nat.le_refl _) hk)
    (fun B hB => ⟨.slice none 0 0, by simp, hb1, hb2, hb3, World.ownsRow_nil _ _ _ _, Kept.refl _ _⟩) (TAx r s w.heap.size w2.heap.size Bn n (wL.heap.size + 2) sec (some ⟨w3.heap.size, 0, none⟩) c4) (fun x a' A A' h hk => h.abides hk) ?assign ?body ?done ?stop
  case hps => intro x; rfl
  case assign =>
    rintro l9 B pre ⟨⟨id, n9, A, B9⟩, k⟩ W K hB hBW hi hK
    simp only [encPB]
    gi_wp2
    refine hK _ _ (((Kept.refl No W).alloc _).holds2 hBW (fun _ _ _ f => f) (fun _ _ _ f => f.elim)) (hi.abides (by omega) (by omega) (Nat.le_refl _) ((Kept.refl _ W).alloc _)) ⟨W.heap.size, by omega, Blk.new W _ _, rfl⟩
  case body =>
    rintro l9 B pre ⟨⟨id, n9, A, B9⟩, k⟩ a' W hpre hB hBW ⟨v, hall, b1, b2, b3, hown, hwk⟩ ⟨b, hbz, hbp, rfl⟩
    obtain ⟨av, cv, rfl, hrv, hnv⟩ := own_form hown
    have hlen : pre.length ≤ 200000 := by
      have g1 := hpre.length_le
      have g2 := seq_len sec
      have g3 := each_len sec.length sec
      rw [List.length_append] at g1
      have g4 : (eachL sec).1.length ≤ sec.length := g3
      split at g2 <;> omega
    have p1 := b1.cell 0
    have p2 := b2.cell 0
    have p3 := b3.cell 0
    have q0 := hbp.cell 0
    have q1 := hbp.cell 1
    have q2 := hbp.cell 2
    have q3 := hbp.cell 3
    simp at p1 p2 p3 q0 q1 q2 q3
    have f1 := b1.frozen 0
    have f2 := b2.frozen 0
    have f3 := b3.frozen 0
    have HALL := Lib.hid hall
    clear hall
    cases k with
    | false =>
      gi_wp2
      exact TX.leave (x := (⟨id, n9, A, B9⟩, false)) (by omega) (by omega) hB hBW rfl b1 b2 hwk
    | true =>
      gi_wp2_with (gi_at_builtin; refine wpListIn_append_own _ rfl _ _ 27 rfl B 55 i0 _ 4 40 Tryd.underlying27 hi hz0 hz1 hz2 rfl (by decide) _ _ _ rfl (hown.alloc _) ⟨W.heap.size, 0, none⟩ 1 1 (PC [⟨id, n9, A, B9⟩]) rfl (PC_length4 [] _) (new_prop (p := ⟨id, n9, A, B9⟩)) (PC_cell1 _) ?c1 ?c2 ?c3 ?_; rotate_right; intro v4 W4 hown4 hg4 hv4; obtain ⟨a4, c40, rfl, _, _⟩ := own_form hown4; have hb34 := (b3.alloc (.cells #[.int .u8 id, .int .u32 n9, .string A, .string B9] 55)).grown hg4 (fun h => by have := (hown.lt _ h).1; omega); have y3 := hb34.cell 0; simp at y3; have g3 := hb34.frozen 0; have yl := hb34.lt)
      case c1 => unfold maxLen; omega
      case c2 => omega
      case c3 => first | omega | (simp; omega) | (show B ≤ (W.alloc _).heap.size; rw [World.size_alloc]; omega)
      exact TI.next (x := ⟨id, n9, A, B9⟩) (by omega) (by omega) (by omega) hB hBW HALL.out b1 b2 b3 hown hwk (Nat.le_refl _) hg4 hown4
  case done =>
    rintro B xs W hzB rfl ⟨v, hall, b1, b2, b3, hown, hwk⟩ hD
    obtain ⟨av, cv, rfl, hrv, hnv⟩ := own_form hown
    obtain ⟨hE1, hE2⟩ := seq_all hall
    have hsrt := HSO.out hE1
    rw [hE1, if_pos rfl] at hR
    subst hR
    have p1 := b1.cell 0
    have p2 := b2.cell 0
    have p3 := b3.cell 0
    simp at p1 p2 p3
    have f1 := b1.frozen 0
    have f2 := b2.frozen 0
    have hlen : (seqL sec).length = (eachL sec).1.length := by rw [← hE2]; simp
    rw [hlen] at hnv p3
    rw [hE2] at hrv
    gi_wp2_with fail
    refine ⟨trivial, (callsIn_wide.2 (hsrt av cv W hrv hnv)).mono ?_⟩
    rintro e W2 ⟨aS, cS9, rfl, hownS, hkS⟩
    have hbb1 := b1.kept hkS (fun f => f)
    have hbb2 := b2.kept hkS (fun f => f)
    have p1 := hbb1.cell 0
    have p2 := hbb2.cell 0
    simp at p1 p2
    have f1 := hbb1.frozen 0
    have f2 := hbb2.frozen 0
    have hDS := (hkS.block _ (Array.getElem?_eq_some_iff.1 hD).1 (fun f => f)).trans hD
    gi_wp2
    generalize hX : (sortL (eachL sec).1) = X at *
    have hD1 : ((W2.setCell ⟨w.heap.size, 0, none⟩ (.slice aS X.length cS9)).setCell ⟨w.heap.size + 1, 0, none⟩ (.bool true)).heap[wL.heap.size]? = some (.deferred (some [])) :=
      (Below.heap_setCell _ _ _ _ (by simp; omega)).trans ((Below.heap_setCell _ _ _ _ (by simp; omega)).trans hDS)
    refine ⟨by simp, .inl ⟨_, _, rfl, run_takeDeferred hD1, ?_⟩⟩
    generalize hW9 : (((W2.setCell ⟨w.heap.size, 0, none⟩ (.slice aS X.length cS9)).setCell ⟨w.heap.size + 1, 0, none⟩ (.bool true)).putObj wL.heap.size (.deferred none)) = W9 at *
    have hkp : Kept (Mid wL.heap.size (wL.heap.size + 1)) ((W2.setCell ⟨w.heap.size, 0, none⟩ (.slice aS X.length cS9)).setCell ⟨w.heap.size + 1, 0, none⟩ (.bool true)) W9 := by rw [← hW9]; exact kept_put (w := (W2.setCell ⟨w.heap.size, 0, none⟩ (.slice aS X.length cS9)).setCell ⟨w.heap.size + 1, 0, none⟩ (.bool true)) wL.heap.size (.deferred none) (Nat.le_refl _) (by omega)
    have hk1 : Kept (Twin w.heap.size) W2 ((W2.setCell ⟨w.heap.size, 0, none⟩ (.slice aS X.length cS9)).setCell ⟨w.heap.size + 1, 0, none⟩ (.bool true)) :=
      ((Kept.refl _ W2).setCell (p := ⟨w.heap.size, 0, none⟩) (.inr (.inl rfl)) _).setCell (p := ⟨w.heap.size + 1, 0, none⟩) (.inr (.inr rfl)) _
    have e1 : Blk W9 w.heap.size 27 #[.slice aS X.length cS9] := by
      have := (hbb1.set_ 0 (.slice aS X.length cS9)).far (p := ⟨w.heap.size + 1, 0, none⟩) (by simp) (.bool true)
      exact Blk.kept (by simpa using this) hkp (fun hm => by have := hm.1; omega)
    have e2 : Blk W9 (w.heap.size + 1) 4 #[.bool true] := by
      have := (hbb2.far (p := ⟨w.heap.size, 0, none⟩) (by simp) (.slice aS X.length cS9)).set_ 0 (.bool true)
      exact Blk.kept (by simpa using this) hkp (fun hm => by have := hm.1; omega)
    have hszW : wL.heap.size + 1 ≤ W.heap.size := (Array.getElem?_eq_some_iff.1 hD).1
    have e3 := own_ne (own_ne hownS hk1 (fun g hg hS => by rcases hS with h | h <;> omega)) hkp (fun g hg hm => by have := hm.2; omega)
    have hk9 : Kept (fun k => Twin w.heap.size k ∨ k = w2.heap.size) wL W9 := (((hwk.mono fun k _ h => .inr h).trans hkS.any).trans (hk1.mono fun k _ h => .inl h)).then hkp (fun i hi hm => by have := hm.1; omega)
    have y1 := e1.cell 0
    have y2 := e2.cell 0
    simp at y1 y2
    have yl1 := e1.lt
    have yl2 := e2.lt
    clear hW9 hkp
    refine ⟨.tuple #[.slice aS X.length cS9, .bool true], by simp [results, Tryd.results18, go_sem, y1, y2, yl1, yl2], ?_⟩
    obtain ⟨z1, z2⟩ := own_row e3
    exact ⟨aS, cS9, rfl, z1, z2, after_end hrL hkR hk9 (fun k hk => by rcases hk with (h | h) | h <;> omega) hb1 hb2 hb3⟩
  case stop =>
    rintro cc pre W hpre ⟨rfl, ⟨d, x, rfl, hx⟩, b1, b2, hwk⟩ hD
    have hbad : (eachL sec).2 = false := by
      cases hh : (eachL sec).2 with
      | false => rfl
      | true =>
        exfalso
        have hm := hpre.subset (List.mem_append_right d (List.mem_singleton.2 rfl))
        unfold seqL at hm
        rw [hh] at hm
        simp at hm
        obtain ⟨y, _, hy⟩ := hm
        rw [← hy] at hx
        cases hx
    rw [hbad, if_neg (by simp)] at hR
    subst hR
    have p1 := b1.cell 0
    have p2 := b2.cell 0
    simp at p1 p2
    gi_wp2
    refine ⟨by simp, .inl ⟨_, _, rfl, run_takeDeferred hD, ?_⟩⟩
    generalize hW9 : W.putObj wL.heap.size (.deferred none) = W9 at *
    have hkp : Kept (Mid wL.heap.size (wL.heap.size + 2)) W W9 := by rw [← hW9]; exact kept_put (w := W) wL.heap.size (.deferred none) (Nat.le_refl _) (by omega)
    have e1 := b1.kept hkp (fun hm => by have := hm.1; omega)
    have e2 := b2.kept hkp (fun hm => by have := hm.1; omega)
    have hk9 := hwk.then hkp (fun i hi hm => by have := hm.1; omega)
    have y1 := e1.cell 0
    have y2 := e2.cell 0
    simp at y1 y2
    have yl1 := e1.lt
    have yl2 := e2.lt
    clear hW9 hkp
    refine ⟨.tuple #[.slice none 0 0, .bool false], by simp [results, Tryd.results18, go_sem, y1, y2, yl1, yl2], ?_⟩
    refine ⟨none, 0, rfl, .nil _ _, by simp, ?_⟩
    exact after_end hrL hkR hk9 (fun k hk => by rcases hk with (h | h) | h <;> omega) hb1 hb2 hb3

end Go.Proofs.YtfcgfkgibimffaaDoor

/-
  props.Sort of at most one property.
-/
namespace Go.Proofs.YtfcgfkgibimffaaDoor
open Go.RowKit
set_option linter.unusedVariables false
set_option linter.unusedSimpArgs false
set_option maxRecDepth 100000

theorem ins_small (a : Option Addr) (n c : Nat) (f : Value) (w : World) (h : n ≤ 1) :
    Calls Tryd.prog 118 #[.slice a n c, .int .i64 0, .int .i64 n, f] w fun e w' => e = .returned (.tuple #[]) ∧ Kept No w w' := by
  have hI : decide ((1 : Int) < (n : Int)) = false := by simp; omega
  have hI2 : (n : Int) ≤ 1 := by omega
  go_enter Tryd.func118, Tryd.ntmps118
  go_wp2
  go_loopw [8] (fun i wr => i = .int .i64 1 ∧ Kept No w wr) (fun i _ => 0)
  case atStart => exact ⟨rfl, Kept.refl _ _⟩
  case round =>
    obtain ⟨rfl, hk⟩ := hrel
    go_wp2
    first | go_end0 | go_ret
    exact ⟨rfl, hk⟩
theorem stable_small (a : Option Addr) (n c : Nat) (f : Value) (w : World) (h : n ≤ 1) :
    Calls Tryd.prog 98 #[.slice a n c, .int .i64 n, f] w fun e w' => e = .returned (.tuple #[]) ∧ Kept No w w' := by
  have hI : decide ((20 : Int) ≤ (n : Int)) = false := by simp; omega
  have hI2 : decide ((20 : Int) < (n : Int)) = false := by simp; omega
  have H := Lib.hid (fun wx => ins_small a n c f wx h)
  go_enter Tryd.func98, Tryd.ntmps98
  go_wp2
  go_loopw [7, 8] (fun x y wr => x = .int .i64 0 ∧ y = .int .i64 20 ∧ Kept No w wr) (fun _ _ _ => 0)
  case atStart => exact ⟨rfl, rfl, Kept.refl _ _⟩
  case round =>
    obtain ⟨rfl, rfl, hk⟩ := hrel
    go_wp2_with (go_at_call 118; refine (H.out _).mono ?_; rintro e w2 ⟨rfl, hk2⟩)
    go_loopw [6, 7, 8] (fun z x y wr9 => z = .int .i64 20 ∧ Kept No w wr9) (fun _ _ _ _ => 0)
    case atStart => exact ⟨rfl, hk.trans hk2⟩
    case round =>
      obtain ⟨rfl, hk3⟩ := hrel
      go_wp2
      first | go_end0 | go_ret
      exact ⟨rfl, hk3⟩
theorem sortL_small (X : List Pr) (h : X.length ≤ 1) : sortL X = X := by
  cases X with
  | nil => simp [sortL]
  | cons p t =>
    cases t with
    | nil => simp [sortL]
    | cons q t => simp at h
theorem sort_small (X : List Pr) (h : X.length ≤ 1) : SortAt X := by
  intro a c w hr hn
  have cC := Lib.hid (pclone_any a c X w hr hn (by omega))
  have HS := Lib.hid (fun (a1 : Option Addr) (c1 : Nat) (f : Value) (wx : World) => stable_small a1 X.length c1 f wx h)
  have hSX : sortL X = X := sortL_small X h
  have cF : ∀ (a1 : Option Addr) (c1 : Nat) (f : Value) (wx : World), Calls Tryd.prog 63 #[.slice a1 X.length c1, f] wx fun e w' => e = .returned (.tuple #[]) ∧ Kept No wx w' := by
    intro a1 c1 f wx
    go_enter Tryd.func63, Tryd.ntmps63
    go_wp2_with (go_at_call 98; refine (HS.out _ _ _ _).mono ?_; rintro e w2 ⟨rfl, hk2⟩)
    first | go_end0 | go_ret
    exact ⟨rfl, hk2⟩
  have HF := Lib.hid cF
  rw [hSX]
  clear HS cF
  go_enter Tryd.func29, Tryd.ntmps29
  go_wp2_with (first
    | (go_at_call 62; refine cC.out.mono ?_; rintro e w1 ⟨a1, c1, rfl, hown, hk1⟩)
    | (go_at_call 63; refine (HF.out _ _ _ _).mono ?_; rintro e w2 ⟨rfl, hk2⟩))
  go_ret
  exact ⟨a1, c1, rfl, own_keptNo hown hk2, hk1.trans hk2⟩

end Go.Proofs.YtfcgfkgibimffaaDoor

/-
  Contracts of Get, of both.
-/
namespace Go.Proofs.YtfcgfkgibimffaaDoor
open Go.RowKit
set_option linter.unusedVariables false
set_option linter.unusedSimpArgs false
set_option maxRecDepth 100000

def getL : List Pr → Nat → Option Pr
  | [], _ => none
  | p :: t, i => if p.id = i then some p else getL t i
def getV (o : Option Pr) : Value := .tuple #[(o.getD Pr.zero).val, .bool o.isSome]
def GetIs (o : Option Pr) (w : World) (e : Ending) (w' : World) : Prop := e = .returned (getV o) ∧ Kept No w w'
set_option maxHeartbeats 2000000 in
theorem get_any (a : Option Addr) (c : Nat) (L : List Pr) (x : Nat) (w : World) (hr : Row w a (PC L)) (hl : L.length ≤ 100000) :
    Calls Tryd.prog 27 #[.slice a L.length c, .int .u8 x] w (GetIs (getL L x) w) := by
  generalize hR : getL L x = R
  have HR := Lib.hid hR
  clear hR
  go_enter Tryd.func27, Tryd.ntmps27
  go_wp2
  go_loopw [10] (fun i wr => ∃ j : Nat, i = .int .i64 j ∧ j ≤ L.length ∧ Hid (getL (L.drop j) x = R) ∧ Blk wr w.heap.size 55 #[.int .u8 0, .int .u32 0, .string ⟨#[]⟩, .string ⟨#[]⟩] ∧ Kept No w wr) (fun i _ => L.length - (intOf i).toNat)
  case atStart => exact ⟨0, rfl, by omega, Lib.hid (by rw [List.drop_zero]; exact HR.out), Blk.new w _ _, (Kept.refl No w).alloc _⟩
  case round =>
    obtain ⟨j, rfl, hj, HG, hZ, hk⟩ := hrel
    have f0 := hZ.frozen 0
    have f1 := hZ.frozen 1
    have f2 := hZ.frozen 2
    have f3 := hZ.frozen 3
    have z0 := hZ.cell 0
    have z1 := hZ.cell 1
    have z2 := hZ.cell 2
    have z3 := hZ.cell 3
    simp at z0 z1 z2 z3
    have hzl := hZ.lt
    by_cases hlt : j < L.length
    · obtain ⟨b, off, rfl, hb, q0, q1, q2, q3⟩ := (hr.keptNo hk).prop hlt
      have HD := Lib.hid (drop_pr hlt)
      generalize L[j] = p at *
      obtain ⟨id, pn, A, B⟩ := p
      dsimp only at q0 q1 q2 q3
      by_cases he : id = x
      · subst he
        have HE : Hid (R = some ⟨id, pn, A, B⟩) := Lib.hid (by rw [← HG.out, HD.out, getL]; simp)
        go_wp2
        refine bodyPost_ret (v := getV (some ⟨id, pn, A, B⟩)) (by simp [results, Tryd.results27, go_sem, z0, z1, z2, z3, hzl, Pr.val, getV]) rfl ⟨by rw [HE.out], ?_⟩
        exact (hk.set4 (Nat.le_refl _) _ _ _ _).alloc _
      · have HE : Hid (getL (L.drop (j + 1)) x = R) := Lib.hid (by rw [← HG.out, HD.out, getL]; simp [he])
        have heI : ((id : Int) == (x : Int)) = false := by simp; omega
        have heN : (id == x) = false := by simpa using he
        go_wp2
        go_roundw
        case rel => exact ⟨j + 1, by go_num, by omega, HE, hZ.alloc _, hk.alloc _⟩
        case measure => simp [intOf]; omega
    · have HE : Hid (R = none) := Lib.hid (by rw [← HG.out, List.drop_of_length_le (by omega)]; rfl)
      go_wp2
      refine bodyPost_ret (v := getV none) (by simp [results, Tryd.results27, go_sem, z0, z1, z2, z3, hzl, Pr.zero, Pr.val, getV]) rfl ⟨by rw [HE.out], ?_⟩
      exact hk.set4 (Nat.le_refl _) _ _ _ _
set_option maxHeartbeats 2000000 in
theorem rget_any (a : Option Addr) (c : Nat) (L : List Pr) (x : Nat) (w : World) (hr : Row w a (PC L)) (hl : L.length ≤ 100000) :
    Calls Tryd.prog 28 #[.slice a L.length c, .int .u8 x] w (GetIs (getL L x) w) := by
  generalize hR : getL L x = R
  have HR := Lib.hid hR
  clear hR
  go_enter Tryd.func28, Tryd.ntmps28
  go_wp2
  go_loopw [6] (fun i wr => ∃ j : Nat, i = .int .i64 j ∧ j ≤ L.length ∧ Hid (getL (L.drop j) x = R) ∧ Blk wr w.heap.size 58 #[.int .u8 0, .int .u32 0, .string ⟨#[]⟩, .string ⟨#[]⟩] ∧ Kept No w wr) (fun i _ => L.length - (intOf i).toNat)
  case atStart => exact ⟨0, rfl, by omega, Lib.hid (by rw [List.drop_zero]; exact HR.out), Blk.new w _ _, (Kept.refl No w).alloc _⟩
  case round =>
    obtain ⟨j, rfl, hj, HG, hZ, hk⟩ := hrel
    have f0 := hZ.frozen 0
    have f1 := hZ.frozen 1
    have f2 := hZ.frozen 2
    have f3 := hZ.frozen 3
    have z0 := hZ.cell 0
    have z1 := hZ.cell 1
    have z2 := hZ.cell 2
    have z3 := hZ.cell 3
    simp at z0 z1 z2 z3
    have hzl := hZ.lt
    by_cases hlt : j < L.length
    · obtain ⟨b, off, rfl, hb, q0, q1, q2, q3⟩ := (hr.keptNo hk).prop hlt
      have HD := Lib.hid (drop_pr hlt)
      generalize L[j] = p at *
      obtain ⟨id, pn, A, B⟩ := p
      dsimp only at q0 q1 q2 q3
      by_cases he : id = x
      · subst he
        have HE : Hid (R = some ⟨id, pn, A, B⟩) := Lib.hid (by rw [← HG.out, HD.out, getL]; simp)
        go_wp2
        refine bodyPost_ret (v := getV (some ⟨id, pn, A, B⟩)) (by simp [results, Tryd.results28, go_sem, z0, z1, z2, z3, hzl, Pr.val, getV]) rfl ⟨by rw [HE.out], ?_⟩
        exact hk.set4 (Nat.le_refl _) _ _ _ _
      · have HE : Hid (getL (L.drop (j + 1)) x = R) := Lib.hid (by rw [← HG.out, HD.out, getL]; simp [he])
        have heI : ((id : Int) == (x : Int)) = false := by simp; omega
        have heN : (id == x) = false := by simpa using he
        go_wp2
        go_roundw
        case rel => exact ⟨j + 1, by go_num, by omega, HE, hZ, hk⟩
        case measure => simp [intOf]; omega
    · have HE : Hid (R = none) := Lib.hid (by rw [← HG.out, List.drop_of_length_le (by omega)]; rfl)
      go_wp2
      refine bodyPost_ret (v := getV none) (by simp [results, Tryd.results28, go_sem, z0, z1, z2, z3, hzl, Pr.zero, Pr.val, getV]) rfl ⟨by rw [HE.out], ?_⟩
      exact hk.set4 (Nat.le_refl _) _ _ _ _

/-- May a property of the one id stand next behind one of the other? -/
def followsB (k : Int) (x y : Nat) : Bool := decide (x < y) || (decide (x = y) && oftenB y k)
set_option maxHeartbeats 2000000 in
theorem follows_any (k : Int) (x y : Nat) (w : World) (h8 : x < 256) (h9 : y < 256) : Calls Tryd.prog 68 #[.int .i64 k, .int .u8 x, .int .u8 y] w fun e w' => e = .returned (.bool (followsB k x y)) ∧ Kept No w w' := by
  have HO := Lib.hid (fun wx => often_any y k wx h9)
  rcases Nat.lt_trichotomy x y with h | h | h
  · have hR : followsB k x y = true := by simp [followsB, h]
    rw [hR]
    have hI : ((x : Int) < (y : Int)) := by omega
    go_enter Tryd.func68, Tryd.ntmps68
    go_wp2
    go_ret
    exact ⟨rfl, Kept.refl _ _⟩
  · subst h
    have hR : followsB k x x = oftenB x k := by simp [followsB]
    rw [hR]
    generalize oftenB x k = o at *
    go_enter Tryd.func68, Tryd.ntmps68
    go_wp2_with (go_at_call 102; refine (HO.out _).mono ?_; rintro e w1 ⟨rfl, hk⟩)
    go_ret
    exact ⟨rfl, hk⟩
  · have hR : followsB k x y = false := by simp [followsB]; omega
    rw [hR]
    have h1 : decide ((x : Int) < (y : Int)) = false := by simp; omega
    have h2 : ((x : Int) == (y : Int)) = false := by simp; omega
    have h3 : (x == y) = false := by simp; omega
    go_enter Tryd.func68, Tryd.ntmps68
    go_wp2
    go_ret
    refine ⟨?_, Kept.refl _ _⟩
    simp
    omega

end Go.Proofs.YtfcgfkgibimffaaDoor

/-
  props.Check.
-/
namespace Go.Proofs.YtfcgfkgibimffaaDoor
open Go.RowKit
set_option linter.unusedVariables false
set_option linter.unusedSimpArgs false
set_option maxRecDepth 100000

def folB (k : Int) : Option Nat → Nat → Bool
  | none, _ => true
  | some x, y => followsB k x y
def chkGo (k : Int) : Option Nat → List Pr → Bool
  | _, [] => true
  | q, p :: t => valueB p.id p.n p.a p.b && (forB p.id k && (folB k q p.id && chkGo k (some p.id) t))
def prevId (L : List Pr) : Nat → Option Nat
  | 0 => none
  | i + 1 => (L[i]?).map Pr.id
def checkB (k : Int) (L : List Pr) : Bool :=
  decide (L.length ≤ 1024) && (chkGo k none L && ((getL L 21).isSome || !(getL L 22).isSome))
theorem getp_at (a : Option Addr) (c : Nat) (L : List Pr) (x : Nat) (xi : Int) (hx : xi = x) (hl : L.length ≤ 100000) : ∃ i n A B, ∃ s, s = (getL L x).isSome ∧ ∀ w, Row w a (PC L) →
    Calls Tryd.prog 27 #[.slice a L.length c, .int .u8 xi] w (fun e w' => e = .returned (.tuple #[.agg #[.int .u8 (i : Nat), .int .u32 (n : Nat), .string A, .string B], .bool s]) ∧ Kept No w w') :=
  by
  subst hx
  exact ⟨_, _, _, _, _, rfl, fun w hr => (get_any a c L x w hr hl).mono fun e w' h => ⟨h.1, h.2⟩⟩
set_option maxHeartbeats 4000000 in
theorem check_any (k : Int) (a : Option Addr) (c : Nat) (L : List Pr) (w : World) (hr : Row w a (PC L)) (hl : L.length ≤ 100000) (hw : ∀ p ∈ L, p.wf') (hT : Tabs w) :
    Calls Tryd.prog 30 #[.int .i64 k, .slice a L.length c] w fun e w' => e = .returned (.bool (checkB k L)) ∧ Kept No w w' := by
  by_cases hbig : L.length ≤ 1024
  case neg =>
    have hR : checkB k L = false := by simp [checkB, hbig]
    rw [hR]
    have hbI : ((1024 : Int) < (L.length : Int)) := by omega
    go_enter Tryd.func30, Tryd.ntmps30
    go_wp2
    go_ret
    exact ⟨rfl, Kept.refl _ _⟩
  obtain ⟨i1, n1, a1, b1, s1, hs1, c1⟩ := getp_at a c L 22 22 rfl hl
  obtain ⟨i2, n2, a2, b2, s2, hs2, c2⟩ := getp_at a c L 21 21 rfl hl
  have hR : checkB k L = (chkGo k none L && (s2 || !s1)) := by rw [hs1, hs2]; simp [checkB, hbig]
  rw [hR]
  clear hs1 hs2 hR
  have HG1 := Lib.hid c1
  have HG2 := Lib.hid c2
  have HW := Lib.hid hw
  generalize hR : (chkGo k none L && (s2 || !s1)) = R
  have HR := Lib.hid hR
  clear hw hR c1 c2
  have hbI : decide ((1024 : Int) < (L.length : Int)) = false := by simp; omega
  go_enter Tryd.func30, Tryd.ntmps30
  go_wp2
  go_loopw [16] (fun i wr => ∃ j : Nat, i = .int .i64 j ∧ j ≤ L.length ∧ Hid ((chkGo k (prevId L j) (L.drop j) && (s2 || !s1)) = R) ∧ Kept No w wr) (fun i _ => L.length - (intOf i).toNat)
  case atStart => exact ⟨0, rfl, by omega, Lib.hid (by rw [List.drop_zero]; exact HR.out), Kept.refl No w⟩
  case round =>
    obtain ⟨j, rfl, hj, HG, hk⟩ := hrel
    by_cases hlt : j < L.length
    · obtain ⟨b, off, rfl, hb, q0, q1, q2, q3⟩ := (hr.keptNo hk).prop hlt
      have HD := Lib.hid (drop_pr hlt)
      have HP1 : Hid (prevId L (j + 1) = some L[j].id) := Lib.hid (by simp [prevId, List.getElem?_eq_getElem hlt])
      have hp := HW.out _ (List.getElem_mem hlt)
      generalize hLj : L[j] = p at *
      clear hLj
      obtain ⟨id, pn, A, B⟩ := p
      obtain ⟨p1, p2, p3, p4⟩ := hp
      dsimp only at q0 q1 q2 q3 p1 p2 p3 p4
      have hB0 := Lib.hid (Blk.new wr 55 #[.int .u8 id, .int .u32 pn, .string A, .string B])
      have hTr := Lib.hid ((hT.kept hk).kept ((Kept.refl No wr).alloc (.cells #[.int .u8 id, .int .u32 pn, .string A, .string B] 55)))
      have cV := fun wx hT => pvalue_any id pn A B wx hT p1 p2 (by omega) (by omega)
      have cF := fun wx => for_any id k wx p1
      have HG2 : Hid (((valueB id pn A B && (forB id k && (folB k (prevId L j) id && chkGo k (some id) (L.drop (j + 1))))) && (s2 || !s1)) = R) := Lib.hid (by rw [← HG.out, HD.out, chkGo])
      rcases hv : valueB id pn A B with _ | _
      · rw [hv] at cV HG2
        have HV := Lib.hid cV
        have HE : Hid (R = false) := Lib.hid (by rw [← HG2.out]; rfl)
        clear cV hv cF HG HG2 HD
        go_wp2_with (go_at_call 66; refine (HV.out _ hTr.out).mono ?_; rintro e w2 ⟨rfl, hk2⟩)
        go_ret
        exact ⟨by rw [HE.out]; rfl, (hk.alloc _).trans hk2⟩
      · rw [hv] at cV HG2
        have HV := Lib.hid cV
        clear cV hv HG HD
        rcases hf : forB id k with _ | _
        · rw [hf] at cF HG2
          have HF := Lib.hid cF
          have HE : Hid (R = false) := Lib.hid (by rw [← HG2.out]; rfl)
          clear cF hf HG2
          go_wp2_with (first
            | (go_at_call 66; refine (HV.out _ hTr.out).mono ?_; rintro e w2 ⟨rfl, hk2⟩; have y0 := (hB0.out.kept hk2 (fun f => f)).cell 0; simp at y0)
            | (go_at_call 67; refine (HF.out _).mono ?_; rintro e w3 ⟨rfl, hk3⟩))
          go_ret
          exact ⟨by rw [HE.out]; rfl, ((hk.alloc _).trans hk2).trans hk3⟩
        · rw [hf] at cF HG2
          have HF := Lib.hid cF
          clear cF hf
          have hB0 := hB0.out
          rcases j with _ | i
          · have HE : Hid ((chkGo k (prevId L 1) (L.drop 1) && (s2 || !s1)) = R) := Lib.hid (by rw [← HG2.out, HP1.out]; rfl)
            clear HG2 HP1
            simp only [Nat.zero_mul, Nat.add_zero] at q0 q1 q2 q3
            go_wp2_with (first
              | (go_at_call 66; refine (HV.out _ hTr.out).mono ?_; rintro e w2 ⟨rfl, hk2⟩; have y0 := (hB0.kept hk2 (fun f => f)).cell 0; simp at y0)
              | (go_at_call 67; refine (HF.out _).mono ?_; rintro e w3 ⟨rfl, hk3⟩))
            refine wp_region_held_drew (S := (fun _ => True)) (by kernel_rfl) ?_ (fun hHeld => ?_)
            · exact trivial
            refine wpAnyH_take (i := 0) (v := ?vvrc0) rfl (by kernel_rfl) (by kernel_rfl) (by kernel_rfl) (fun _ _ _ h => h) (Or.inl ⟨by rfl, ?hhrc0⟩) (by assumption) ?rrrc0
            case hhrc0 => (intro wz9 hSw; (try dsimp only at hSw); go_simp; try with_reducible rfl)
            go_simp
            refine wpAnyH_take (i := 1) (v := Value.bool false) rfl (by kernel_rfl) (by kernel_rfl) (by kernel_rfl) (fun _ _ _ h => h) (Or.inl ⟨by rfl, ?hhrc1⟩) (by assumption) ?rrrc1
            case hhrc1 => (intro wz9 hSw; (try dsimp only at hSw); go_simp; try with_reducible rfl)
            go_simp
            refine wpAnyH_take (i := 2) (v := Value.bool false) rfl (by kernel_rfl) (by kernel_rfl) (by kernel_rfl) (fun _ _ _ h => h) (Or.inl ⟨by rfl, ?hhrc2⟩) (by assumption) ?rrrc2
            case hhrc2 => (intro wz9 hSw; (try dsimp only at hSw); go_simp; try with_reducible rfl)
            go_simp
            refine wpAnyH_take (i := 3) (v := undef) rfl (by kernel_rfl) (by kernel_rfl) (by kernel_rfl) (fun _ _ _ h => h) (Or.inr ⟨by rfl, rfl⟩) (by assumption) ?_
            go_simp
            refine wpAnyH_take (i := 4) (v := undef) rfl (by kernel_rfl) (by kernel_rfl) (by kernel_rfl) (fun _ _ _ h => h) (Or.inr ⟨by rfl, rfl⟩) (by assumption) ?_
            go_simp
            refine wpAnyH_take (i := 5) (v := undef) rfl (by kernel_rfl) (by kernel_rfl) (by kernel_rfl) (fun _ _ _ h => h) (Or.inr ⟨by rfl, rfl⟩) (by assumption) ?_
            go_simp
            refine wpAnyH_take (i := 6) (v := undef) rfl (by kernel_rfl) (by kernel_rfl) (by kernel_rfl) (fun _ _ _ h => h) (Or.inr ⟨by rfl, rfl⟩) (by assumption) ?_
            go_simp
            refine wpAnyH_take (i := 7) (v := undef) rfl (by kernel_rfl) (by kernel_rfl) (by kernel_rfl) (fun _ _ _ h => h) (Or.inr ⟨by rfl, rfl⟩) (by assumption) ?_
            go_simp
            refine wpAnyH_take (i := 8) (v := undef) rfl (by kernel_rfl) (by kernel_rfl) (by kernel_rfl) (fun _ _ _ h => h) (Or.inr ⟨by rfl, rfl⟩) (by assumption) ?_
            go_simp
            refine wpAnyH_take (i := 9) (v := undef) rfl (by kernel_rfl) (by kernel_rfl) (by kernel_rfl) (fun _ _ _ h => h) (Or.inr ⟨by rfl, rfl⟩) (by assumption) ?_
            go_simp
            refine wpAnyH_take (i := 10) (v := undef) rfl (by kernel_rfl) (by kernel_rfl) (by kernel_rfl) (fun _ _ _ h => h) (Or.inr ⟨by rfl, rfl⟩) (by assumption) ?_
            go_simp
            refine wpAnyH_take (i := 11) (v := undef) rfl (by kernel_rfl) (by kernel_rfl) (by kernel_rfl) (fun _ _ _ h => h) (Or.inr ⟨by rfl, rfl⟩) (by assumption) ?_
            go_simp
            refine wpAnyH_take (i := 12) (v := undef) rfl (by kernel_rfl) (by kernel_rfl) (by kernel_rfl) (fun _ _ _ h => h) (Or.inr ⟨by rfl, rfl⟩) (by assumption) ?_
            go_simp
            refine wpAnyH_take (i := 13) (v := undef) rfl (by kernel_rfl) (by kernel_rfl) (by kernel_rfl) (fun _ _ _ h => h) (Or.inr ⟨by rfl, rfl⟩) (by assumption) ?_
            go_simp
            refine wpAnyH_take (i := 14) (v := Value.bool false) rfl (by kernel_rfl) (by kernel_rfl) (by kernel_rfl) (fun _ _ _ h => h) (Or.inl ⟨by rfl, ?hhrc14⟩) (by assumption) ?rrrc14
            case hhrc14 => (intro wz9 hSw; (try dsimp only at hSw); go_simp; try with_reducible rfl)
            go_simp
            refine wpAnyH_done (by kernel_rfl) ?_ _
            go_wp2
            go_roundw
            case rel => exact ⟨1, by go_num, by omega, HE, (((hk.alloc _).trans hk2).trans hk3).drew⟩
            case measure => simp [intOf]; omega
          · obtain ⟨b9, of9, he9, hb9, o0, _, _, _⟩ := (hr.keptNo hk).prop (k := i) (by omega)
            injection he9 with he9
            injection he9 with e9 e8
            subst e9 e8
            have hil : i < L.length := by omega
            have hwi : IntKind.i64.wrap (i : Int) = (i : Int) := by
              have h9 : (i : Int) < 1000000 := by omega
              rw [IntKind.wrap_i64]; omega
            have hpv : prevId L (i + 1) = some L[i].id := by simp [prevId, List.getElem?_eq_getElem (show i < L.length by omega)]
            rw [hpv] at HG2
            have h8 := (HW.out _ (List.getElem_mem (show i < L.length by omega))).hid
            generalize L[i].id = pid at *
            clear hpv
            have HE0 : Hid ((followsB k pid id && (chkGo k (prevId L (i + 1 + 1)) (L.drop (i + 1 + 1)) && (s2 || !s1))) = R) := Lib.hid (by rw [← HG2.out, HP1.out]; simp [folB, Bool.and_assoc])
            have cO := fun wx => follows_any k pid id wx h8 p1
            clear HG2 HP1
            rcases hfo : followsB k pid id with _ | _
            · rw [hfo] at cO HE0
              have HFO := Lib.hid cO
              have HE : Hid (R = false) := Lib.hid (by rw [← HE0.out]; rfl)
              clear cO hfo HE0
              go_wp2_with (first
                | (go_at_call 66; refine (HV.out _ hTr.out).mono ?_; rintro e w2 ⟨rfl, hk2⟩; have y0 := (hB0.kept hk2 (fun f => f)).cell 0; simp at y0)
                | (go_at_call 67; refine (HF.out _).mono ?_; rintro e w3 ⟨rfl, hk3⟩))
              have hk9 := ((hk.alloc (.cells #[.int .u8 id, .int .u32 pn, .string A, .string B] 55)).trans hk2).trans hk3
              have y0 := ((hB0.kept hk2 (fun f => f)).kept hk3 (fun f => f)).cell 0
              simp at y0
              have ob := (((Kept.refl No wr).alloc (.cells #[.int .u8 id, .int .u32 pn, .string A, .string B] 55)).trans hk2).trans hk3
              have hb3 : b < w3.heap.size := Nat.lt_of_lt_of_le hb ob.size
              have hz3 : wr.heap.size < w3.heap.size := ((hB0.kept hk2 (fun f => f)).kept hk3 (fun f => f)).lt
              have o0 := (ob.cell (p := ⟨b, off + i * 4, none⟩) hb (fun f => f)).trans o0
              refine wp_region_held_drew (S := (fun wx => wx.cell? ⟨b, off + i * 4, none⟩ = some (.int .u8 pid) ∧ wx.cell? ⟨wr.heap.size, 0, none⟩ = some (.int .u8 id))) (by kernel_rfl) ?_ (fun hHeld => ?_)
              · exact ⟨by simpa using o0, by simpa using y0⟩
              refine wpAnyH_take (i := 0) (v := ?vvrb0) rfl (by kernel_rfl) (by kernel_rfl) (by kernel_rfl) (fun _ _ _ h => h) (Or.inl ⟨by rfl, ?hhrb0⟩) (by assumption) ?rrrb0
              case hhrb0 => (intro wz9 hSw; (try dsimp only at hSw); go_simp; try with_reducible rfl)
              go_simp
              refine wpAnyH_take (i := 1) (v := Value.bool true) rfl (by kernel_rfl) (by kernel_rfl) (by kernel_rfl) (fun _ _ _ h => h) (Or.inl ⟨by rfl, ?hhrb1⟩) (by assumption) ?rrrb1
              case hhrb1 => (intro wz9 hSw; (try dsimp only at hSw); go_simp; try with_reducible rfl)
              go_simp
              refine wpAnyH_take (i := 2) (v := Value.bool true) rfl (by kernel_rfl) (by kernel_rfl) (by kernel_rfl) (fun _ _ _ h => h) (Or.inl ⟨by rfl, ?hhrb2⟩) (by assumption) ?rrrb2
              case hhrb2 => (intro wz9 hSw; (try dsimp only at hSw); go_simp; try with_reducible rfl)
              go_simp
              refine wpAnyH_take (i := 3) (v := ?vvrb3) rfl (by kernel_rfl) (by kernel_rfl) (by kernel_rfl) (fun _ _ _ h => h) (Or.inl ⟨by rfl, ?hhrb3⟩) (by assumption) ?rrrb3
              case hhrb3 => (intro wz9 hSw; (try dsimp only at hSw); go_simp; try with_reducible rfl)
              go_simp
              refine wpAnyH_take (i := 4) (v := ?vvrb4) rfl (by kernel_rfl) (by kernel_rfl) (by kernel_rfl) (fun _ _ _ h => h) (Or.inl ⟨by rfl, ?hhrb4⟩) (by assumption) ?rrrb4
              case hhrb4 => (intro wz9 hSw; (try dsimp only at hSw); go_simp; try with_reducible rfl)
              go_simp
              refine wpAnyH_take (i := 5) (v := ?vvrb5) rfl (by kernel_rfl) (by kernel_rfl) (by kernel_rfl) (fun _ _ _ h => h) (Or.inl ⟨by rfl, ?hhrb5⟩) (by assumption) ?rrrb5
              case hhrb5 => (intro wz9 hSw; (try dsimp only at hSw); go_simp; try with_reducible rfl)
              go_simp
              refine wpAnyH_take (i := 6) (v := Value.int .i64 (i : Nat)) rfl (by kernel_rfl) (by kernel_rfl) (by kernel_rfl) (fun _ _ _ h => h) (Or.inl ⟨by rfl, ?hhrb6⟩) (by assumption) ?rrrb6
              case hhrb6 => (intro wz9 hSw; (try dsimp only at hSw); go_simp; (try rw [hwi]); try with_reducible rfl)
              go_simp
              refine wpAnyH_take (i := 7) (v := ?vvrb7) rfl (by kernel_rfl) (by kernel_rfl) (by kernel_rfl) (fun _ _ _ h => h) (Or.inl ⟨by rfl, ?hhrb7⟩) (by assumption) ?rrrb7
              case hhrb7 => (intro wz9 hSw; (try dsimp only at hSw); go_simp; try with_reducible rfl)
              go_simp
              refine wpAnyH_take (i := 8) (v := ?vvrb8) rfl (by kernel_rfl) (by kernel_rfl) (by kernel_rfl) (fun _ _ _ h => h) (Or.inl ⟨by rfl, ?hhrb8⟩) (by assumption) ?rrrb8
              case hhrb8 => (intro wz9 hSw; (try dsimp only at hSw); go_simp; try with_reducible rfl)
              go_simp
              refine wpAnyH_take (i := 9) (v := Value.int .u8 pid) rfl (by kernel_rfl) (by kernel_rfl) (by kernel_rfl) (fun _ _ _ h => h) (Or.inl ⟨by rfl, ?hhrb9⟩) (by assumption) ?rrrb9
              case hhrb9 => (intro wz9 hSw; (try dsimp only at hSw); go_simp; try with_reducible rfl)
              go_simp
              refine wpAnyH_take (i := 10) (v := ?vvrb10) rfl (by kernel_rfl) (by kernel_rfl) (by kernel_rfl) (fun _ _ _ h => h) (Or.inl ⟨by rfl, ?hhrb10⟩) (by assumption) ?rrrb10
              case hhrb10 => (intro wz9 hSw; (try dsimp only at hSw); go_simp; try with_reducible rfl)
              go_simp
              refine wpAnyH_take (i := 11) (v := Value.int .u8 id) rfl (by kernel_rfl) (by kernel_rfl) (by kernel_rfl) (fun _ _ _ h => h) (Or.inl ⟨by rfl, ?hhrb11⟩) (by assumption) ?rrrb11
              case hhrb11 => (intro wz9 hSw; (try dsimp only at hSw); go_simp; try with_reducible rfl)
              go_simp
              refine wpAnyH_ready (rs := [12]) (by kernel_rfl) (by simp) ?_
              refine AllReadyH.cons rfl (fun K9 hK9 => ?_) AllReadyH.nil
              go_simp
              go_wp2_with (go_at_call 68; refine (HFO.out _).mono ?_; rintro e w4 ⟨rfl, hk4⟩)
              refine hK9.out _ _ ?_ (fun hHeld => ?_)
              · exact ⟨(hk4.cell (by simpa using hb3) (fun f => f)).trans hHeld.1, (hk4.cell (by simpa using hz3) (fun f => f)).trans hHeld.2⟩
              clear hK9 K9
              refine wpAnyH_take (i := 13) (v := Value.bool true) rfl (by kernel_rfl) (by kernel_rfl) (by kernel_rfl) (fun _ _ _ h => h) (Or.inl ⟨by rfl, ?hhrb13⟩) (by assumption) ?rrrb13
              case hhrb13 => (intro wz9 hSw; (try dsimp only at hSw); go_simp; try with_reducible rfl)
              go_simp
              refine wpAnyH_take (i := 14) (v := Value.bool true) rfl (by kernel_rfl) (by kernel_rfl) (by kernel_rfl) (fun _ _ _ h => h) (Or.inl ⟨by rfl, ?hhrb14⟩) (by assumption) ?rrrb14
              case hhrb14 => (intro wz9 hSw; (try dsimp only at hSw); go_simp; try with_reducible rfl)
              go_simp
              refine wpAnyH_done (by kernel_rfl) ?_ _
              go_wp2
              go_ret
              exact ⟨by rw [HE.out]; rfl, hk9.drew.trans hk4⟩
            · rw [hfo] at cO HE0
              have HFO := Lib.hid cO
              have HE : Hid ((chkGo k (prevId L (i + 1 + 1)) (L.drop (i + 1 + 1)) && (s2 || !s1)) = R) := Lib.hid (by rw [← HE0.out]; rfl)
              clear cO hfo HE0
              go_wp2_with (first
                | (go_at_call 66; refine (HV.out _ hTr.out).mono ?_; rintro e w2 ⟨rfl, hk2⟩; have y0 := (hB0.kept hk2 (fun f => f)).cell 0; simp at y0)
                | (go_at_call 67; refine (HF.out _).mono ?_; rintro e w3 ⟨rfl, hk3⟩))
              have hk9 := ((hk.alloc (.cells #[.int .u8 id, .int .u32 pn, .string A, .string B] 55)).trans hk2).trans hk3
              have y0 := ((hB0.kept hk2 (fun f => f)).kept hk3 (fun f => f)).cell 0
              simp at y0
              have ob := (((Kept.refl No wr).alloc (.cells #[.int .u8 id, .int .u32 pn, .string A, .string B] 55)).trans hk2).trans hk3
              have hb3 : b < w3.heap.size := Nat.lt_of_lt_of_le hb ob.size
              have hz3 : wr.heap.size < w3.heap.size := ((hB0.kept hk2 (fun f => f)).kept hk3 (fun f => f)).lt
              have o0 := (ob.cell (p := ⟨b, off + i * 4, none⟩) hb (fun f => f)).trans o0
              refine wp_region_held_drew (S := (fun wx => wx.cell? ⟨b, off + i * 4, none⟩ = some (.int .u8 pid) ∧ wx.cell? ⟨wr.heap.size, 0, none⟩ = some (.int .u8 id))) (by kernel_rfl) ?_ (fun hHeld => ?_)
              · exact ⟨by simpa using o0, by simpa using y0⟩
              refine wpAnyH_take (i := 0) (v := ?vvra0) rfl (by kernel_rfl) (by kernel_rfl) (by kernel_rfl) (fun _ _ _ h => h) (Or.inl ⟨by rfl, ?hhra0⟩) (by assumption) ?rrra0
              case hhra0 => (intro wz9 hSw; (try dsimp only at hSw); go_simp; try with_reducible rfl)
              go_simp
              refine wpAnyH_take (i := 1) (v := Value.bool true) rfl (by kernel_rfl) (by kernel_rfl) (by kernel_rfl) (fun _ _ _ h => h) (Or.inl ⟨by rfl, ?hhra1⟩) (by assumption) ?rrra1
              case hhra1 => (intro wz9 hSw; (try dsimp only at hSw); go_simp; try with_reducible rfl)
              go_simp
              refine wpAnyH_take (i := 2) (v := Value.bool true) rfl (by kernel_rfl) (by kernel_rfl) (by kernel_rfl) (fun _ _ _ h => h) (Or.inl ⟨by rfl, ?hhra2⟩) (by assumption) ?rrra2
              case hhra2 => (intro wz9 hSw; (try dsimp only at hSw); go_simp; try with_reducible rfl)
              go_simp
              refine wpAnyH_take (i := 3) (v := ?vvra3) rfl (by kernel_rfl) (by kernel_rfl) (by kernel_rfl) (fun _ _ _ h => h) (Or.inl ⟨by rfl, ?hhra3⟩) (by assumption) ?rrra3
              case hhra3 => (intro wz9 hSw; (try dsimp only at hSw); go_simp; try with_reducible rfl)
              go_simp
              refine wpAnyH_take (i := 4) (v := ?vvra4) rfl (by kernel_rfl) (by kernel_rfl) (by kernel_rfl) (fun _ _ _ h => h) (Or.inl ⟨by rfl, ?hhra4⟩) (by assumption) ?rrra4
              case hhra4 => (intro wz9 hSw; (try dsimp only at hSw); go_simp; try with_reducible rfl)
              go_simp
              refine wpAnyH_take (i := 5) (v := ?vvra5) rfl (by kernel_rfl) (by kernel_rfl) (by kernel_rfl) (fun _ _ _ h => h) (Or.inl ⟨by rfl, ?hhra5⟩) (by assumption) ?rrra5
              case hhra5 => (intro wz9 hSw; (try dsimp only at hSw); go_simp; try with_reducible rfl)
              go_simp
              refine wpAnyH_take (i := 6) (v := Value.int .i64 (i : Nat)) rfl (by kernel_rfl) (by kernel_rfl) (by kernel_rfl) (fun _ _ _ h => h) (Or.inl ⟨by rfl, ?hhra6⟩) (by assumption) ?rrra6
              case hhra6 => (intro wz9 hSw; (try dsimp only at hSw); go_simp; (try rw [hwi]); try with_reducible rfl)
              go_simp
              refine wpAnyH_take (i := 7) (v := ?vvra7) rfl (by kernel_rfl) (by kernel_rfl) (by kernel_rfl) (fun _ _ _ h => h) (Or.inl ⟨by rfl, ?hhra7⟩) (by assumption) ?rrra7
              case hhra7 => (intro wz9 hSw; (try dsimp only at hSw); go_simp; try with_reducible rfl)
              go_simp
              refine wpAnyH_take (i := 8) (v := ?vvra8) rfl (by kernel_rfl) (by kernel_rfl) (by kernel_rfl) (fun _ _ _ h => h) (Or.inl ⟨by rfl, ?hhra8⟩) (by assumption) ?rrra8
              case hhra8 => (intro wz9 hSw; (try dsimp only at hSw); go_simp; try with_reducible rfl)
              go_simp
              refine wpAnyH_take (i := 9) (v := Value.int .u8 pid) rfl (by kernel_rfl) (by kernel_rfl) (by kernel_rfl) (fun _ _ _ h => h) (Or.inl ⟨by rfl, ?hhra9⟩) (by assumption) ?rrra9
              case hhra9 => (intro wz9 hSw; (try dsimp only at hSw); go_simp; try with_reducible rfl)
              go_simp
              refine wpAnyH_take (i := 10) (v := ?vvra10) rfl (by kernel_rfl) (by kernel_rfl) (by kernel_rfl) (fun _ _ _ h => h) (Or.inl ⟨by rfl, ?hhra10⟩) (by assumption) ?rrra10
              case hhra10 => (intro wz9 hSw; (try dsimp only at hSw); go_simp; try with_reducible rfl)
              go_simp
              refine wpAnyH_take (i := 11) (v := Value.int .u8 id) rfl (by kernel_rfl) (by kernel_rfl) (by kernel_rfl) (fun _ _ _ h => h) (Or.inl ⟨by rfl, ?hhra11⟩) (by assumption) ?rrra11
              case hhra11 => (intro wz9 hSw; (try dsimp only at hSw); go_simp; try with_reducible rfl)
              go_simp
              refine wpAnyH_ready (rs := [12]) (by kernel_rfl) (by simp) ?_
              refine AllReadyH.cons rfl (fun K9 hK9 => ?_) AllReadyH.nil
              go_simp
              go_wp2_with (go_at_call 68; refine (HFO.out _).mono ?_; rintro e w4 ⟨rfl, hk4⟩)
              refine hK9.out _ _ ?_ (fun hHeld => ?_)
              · exact ⟨(hk4.cell (by simpa using hb3) (fun f => f)).trans hHeld.1, (hk4.cell (by simpa using hz3) (fun f => f)).trans hHeld.2⟩
              clear hK9 K9
              refine wpAnyH_take (i := 13) (v := Value.bool false) rfl (by kernel_rfl) (by kernel_rfl) (by kernel_rfl) (fun _ _ _ h => h) (Or.inl ⟨by rfl, ?hhra13⟩) (by assumption) ?rrra13
              case hhra13 => (intro wz9 hSw; (try dsimp only at hSw); go_simp; try with_reducible rfl)
              go_simp
              refine wpAnyH_take (i := 14) (v := Value.bool false) rfl (by kernel_rfl) (by kernel_rfl) (by kernel_rfl) (fun _ _ _ h => h) (Or.inl ⟨by rfl, ?hhra14⟩) (by assumption) ?rrra14
              case hhra14 => (intro wz9 hSw; (try dsimp only at hSw); go_simp; try with_reducible rfl)
              go_simp
              refine wpAnyH_done (by kernel_rfl) ?_ _
              go_wp2
              go_roundw
              case rel => exact ⟨i + 1 + 1, by go_num, by omega, HE, hk9.drew.trans hk4⟩
              case measure => simp [intOf]; omega
    · have HE : Hid (R = (s2 || !s1)) := Lib.hid (by rw [← HG.out, List.drop_of_length_le (by omega)]; rfl)
      have hrr := Lib.hid (hr.keptNo hk)
      clear HG HR
      go_wp2_with fail
      go_at_call 27
      refine (HG1.out _ hrr.out).mono ?_
      rintro e w2 ⟨rfl, hk2⟩
      go_wp2_with fail
      go_at_call 27
      refine (HG2.out _ (hrr.out.keptNo (hk2.alloc _))).mono ?_
      rintro e w3 ⟨rfl, hk3⟩
      rcases s2 with _ | _
      · go_wp2
        go_ret
        exact ⟨by rw [HE.out]; simp, (((hk.trans hk2).alloc _).trans hk3).alloc _⟩
      · go_wp2
        go_ret
        exact ⟨by rw [HE.out]; simp, (((hk.trans hk2).alloc _).trans hk3).alloc _⟩

end Go.Proofs.YtfcgfkgibimffaaDoor

/-
  The document's Check.
-/
namespace Go.Proofs.YtfcgfkgibimffaaDoor
open Go.RowKit
set_option linter.unusedVariables false
set_option linter.unusedSimpArgs false
set_option maxRecDepth 100000

theorem rgetp_at (a : Option Addr) (c : Nat) (L : List Pr) (x : Nat) (xi : Int) (hx : xi = x) (hl : L.length ≤ 100000) : ∃ i n A B, ∃ s, s = (getL L x).isSome ∧ ∀ w, Row w a (PC L) →
    Calls Tryd.prog 28 #[.slice a L.length c, .int .u8 xi] w (fun e w' => e = .returned (.tuple #[.agg #[.int .u8 (i : Nat), .int .u32 (n : Nat), .string A, .string B], .bool s]) ∧ Kept No w w') :=
  by
  subst hx
  exact ⟨_, _, _, _, _, rfl, fun w hr => (rget_any a c L x w hr hl).mono fun e w' h => ⟨h.1, h.2⟩⟩
set_option maxHeartbeats 4000000 in
theorem rcheck_any (k : Int) (a : Option Addr) (c : Nat) (L : List Pr) (w : World) (hr : Row w a (PC L)) (hl : L.length ≤ 100000) (hw : ∀ p ∈ L, p.wf') :
    Calls Tryd.prog 31 #[.int .i64 k, .slice a L.length c] w fun e w' => e = .returned (.bool (checkB k L)) ∧ Kept No w w' := by
  by_cases hbig : L.length ≤ 1024
  case neg =>
    have hR : checkB k L = false := by simp [checkB, hbig]
    rw [hR]
    have hbI : ((1024 : Int) < (L.length : Int)) := by omega
    go_enter Tryd.func31, Tryd.ntmps31
    go_wp2
    go_ret
    exact ⟨rfl, Kept.refl _ _⟩
  obtain ⟨i1, n1, a1, b1, s1, hs1, c1⟩ := rgetp_at a c L 22 22 rfl hl
  obtain ⟨i2, n2, a2, b2, s2, hs2, c2⟩ := rgetp_at a c L 21 21 rfl hl
  have hR : checkB k L = (chkGo k none L && (s2 || !s1)) := by rw [hs1, hs2]; simp [checkB, hbig]
  rw [hR]
  clear hs1 hs2 hR
  have HG1 := Lib.hid c1
  have HG2 := Lib.hid c2
  have HW := Lib.hid hw
  generalize hR : (chkGo k none L && (s2 || !s1)) = R
  have HR := Lib.hid hR
  clear hw hR c1 c2
  have hbI : decide ((1024 : Int) < (L.length : Int)) = false := by simp; omega
  go_enter Tryd.func31, Tryd.ntmps31
  go_wp2
  go_loopw [5] (fun i wr => ∃ j : Nat, i = .int .i64 j ∧ j ≤ L.length ∧ Hid ((chkGo k (prevId L j) (L.drop j) && (s2 || !s1)) = R) ∧ Kept No w wr) (fun i _ => L.length - (intOf i).toNat)
  case atStart => exact ⟨0, rfl, by omega, Lib.hid (by rw [List.drop_zero]; exact HR.out), Kept.refl No w⟩
  case round =>
    obtain ⟨j, rfl, hj, HG, hk⟩ := hrel
    by_cases hlt : j < L.length
    · obtain ⟨b, off, rfl, hb, q0, q1, q2, q3⟩ := (hr.keptNo hk).prop hlt
      have HD := Lib.hid (drop_pr hlt)
      have HP1 : Hid (prevId L (j + 1) = some L[j].id) := Lib.hid (by simp [prevId, List.getElem?_eq_getElem hlt])
      have hp := HW.out _ (List.getElem_mem hlt)
      generalize hLj : L[j] = p at *
      clear hLj
      obtain ⟨id, pn, A, B⟩ := p
      obtain ⟨p1, p2, p3, p4⟩ := hp
      dsimp only at q0 q1 q2 q3 p1 p2 p3 p4
      have cV := fun wx => rvalue_any id pn A B wx p1 p2 (by omega) (by omega)
      have cF := fun wx => rfor_any id k wx p1
      have HG2 : Hid (((valueB id pn A B && (forB id k && (folB k (prevId L j) id && chkGo k (some id) (L.drop (j + 1))))) && (s2 || !s1)) = R) := Lib.hid (by rw [← HG.out, HD.out, chkGo])
      rcases hv : valueB id pn A B with _ | _
      · rw [hv] at cV HG2
        have HV := Lib.hid cV
        have HE : Hid (R = false) := Lib.hid (by rw [← HG2.out]; rfl)
        clear cV hv cF HG HG2 HD
        go_wp2_with (go_at_call 69; refine (HV.out _).mono ?_; rintro e w2 ⟨rfl, hk2⟩)
        go_ret
        exact ⟨by rw [HE.out]; rfl, hk.trans hk2⟩
      · rw [hv] at cV HG2
        have HV := Lib.hid cV
        clear cV hv HG HD
        rcases hf : forB id k with _ | _
        · rw [hf] at cF HG2
          have HF := Lib.hid cF
          have HE : Hid (R = false) := Lib.hid (by rw [← HG2.out]; rfl)
          clear cF hf HG2
          go_wp2_with (first
            | (go_at_call 69; refine (HV.out _).mono ?_; rintro e w2 ⟨rfl, hk2⟩; have y0 := (hk2.cell (p := ⟨b, off + j * 4, none⟩) hb (fun f => f)).trans q0)
            | (go_at_call 70; refine (HF.out _).mono ?_; rintro e w3 ⟨rfl, hk3⟩))
          go_ret
          exact ⟨by rw [HE.out]; rfl, (hk.trans hk2).trans hk3⟩
        · rw [hf] at cF HG2
          have HF := Lib.hid cF
          clear cF hf
          rcases j with _ | i
          · have HE : Hid ((chkGo k (prevId L 1) (L.drop 1) && (s2 || !s1)) = R) := Lib.hid (by rw [← HG2.out, HP1.out]; rfl)
            clear HG2 HP1
            simp only [Nat.zero_mul, Nat.add_zero] at q0 q1 q2 q3
            go_wp2_with (first
              | (go_at_call 69; refine (HV.out _).mono ?_; rintro e w2 ⟨rfl, hk2⟩; have y0 := (hk2.cell hb (fun f => f)).trans q0)
              | (go_at_call 70; refine (HF.out _).mono ?_; rintro e w3 ⟨rfl, hk3⟩))
            refine wp_region_held_drew (S := (fun _ => True)) (by kernel_rfl) ?_ (fun hHeld => ?_)
            · exact trivial
            refine wpAnyH_take (i := 0) (v := ?vvre0) rfl (by kernel_rfl) (by kernel_rfl) (by kernel_rfl) (fun _ _ _ h => h) (Or.inl ⟨by rfl, ?hhre0⟩) (by assumption) ?rrre0
            case hhre0 => (intro wz9 hSw; (try dsimp only at hSw); go_simp; try with_reducible rfl)
            go_simp
            refine wpAnyH_take (i := 1) (v := Value.bool false) rfl (by kernel_rfl) (by kernel_rfl) (by kernel_rfl) (fun _ _ _ h => h) (Or.inl ⟨by rfl, ?hhre1⟩) (by assumption) ?rrre1
            case hhre1 => (intro wz9 hSw; (try dsimp only at hSw); go_simp; try with_reducible rfl)
            go_simp
            refine wpAnyH_take (i := 2) (v := Value.bool false) rfl (by kernel_rfl) (by kernel_rfl) (by kernel_rfl) (fun _ _ _ h => h) (Or.inl ⟨by rfl, ?hhre2⟩) (by assumption) ?rrre2
            case hhre2 => (intro wz9 hSw; (try dsimp only at hSw); go_simp; try with_reducible rfl)
            go_simp
            refine wpAnyH_take (i := 3) (v := undef) rfl (by kernel_rfl) (by kernel_rfl) (by kernel_rfl) (fun _ _ _ h => h) (Or.inr ⟨by rfl, rfl⟩) (by assumption) ?_
            go_simp
            refine wpAnyH_take (i := 4) (v := undef) rfl (by kernel_rfl) (by kernel_rfl) (by kernel_rfl) (fun _ _ _ h => h) (Or.inr ⟨by rfl, rfl⟩) (by assumption) ?_
            go_simp
            refine wpAnyH_take (i := 5) (v := undef) rfl (by kernel_rfl) (by kernel_rfl) (by kernel_rfl) (fun _ _ _ h => h) (Or.inr ⟨by rfl, rfl⟩) (by assumption) ?_
            go_simp
            refine wpAnyH_take (i := 6) (v := undef) rfl (by kernel_rfl) (by kernel_rfl) (by kernel_rfl) (fun _ _ _ h => h) (Or.inr ⟨by rfl, rfl⟩) (by assumption) ?_
            go_simp
            refine wpAnyH_take (i := 7) (v := undef) rfl (by kernel_rfl) (by kernel_rfl) (by kernel_rfl) (fun _ _ _ h => h) (Or.inr ⟨by rfl, rfl⟩) (by assumption) ?_
            go_simp
            refine wpAnyH_take (i := 8) (v := undef) rfl (by kernel_rfl) (by kernel_rfl) (by kernel_rfl) (fun _ _ _ h => h) (Or.inr ⟨by rfl, rfl⟩) (by assumption) ?_
            go_simp
            refine wpAnyH_take (i := 9) (v := undef) rfl (by kernel_rfl) (by kernel_rfl) (by kernel_rfl) (fun _ _ _ h => h) (Or.inr ⟨by rfl, rfl⟩) (by assumption) ?_
            go_simp
            refine wpAnyH_take (i := 10) (v := undef) rfl (by kernel_rfl) (by kernel_rfl) (by kernel_rfl) (fun _ _ _ h => h) (Or.inr ⟨by rfl, rfl⟩) (by assumption) ?_
            go_simp
            refine wpAnyH_take (i := 11) (v := undef) rfl (by kernel_rfl) (by kernel_rfl) (by kernel_rfl) (fun _ _ _ h => h) (Or.inr ⟨by rfl, rfl⟩) (by assumption) ?_
            go_simp
            refine wpAnyH_take (i := 12) (v := undef) rfl (by kernel_rfl) (by kernel_rfl) (by kernel_rfl) (fun _ _ _ h => h) (Or.inr ⟨by rfl, rfl⟩) (by assumption) ?_
            go_simp
            refine wpAnyH_take (i := 13) (v := undef) rfl (by kernel_rfl) (by kernel_rfl) (by kernel_rfl) (fun _ _ _ h => h) (Or.inr ⟨by rfl, rfl⟩) (by assumption) ?_
            go_simp
            refine wpAnyH_take (i := 14) (v := undef) rfl (by kernel_rfl) (by kernel_rfl) (by kernel_rfl) (fun _ _ _ h => h) (Or.inr ⟨by rfl, rfl⟩) (by assumption) ?_
            go_simp
            refine wpAnyH_take (i := 15) (v := undef) rfl (by kernel_rfl) (by kernel_rfl) (by kernel_rfl) (fun _ _ _ h => h) (Or.inr ⟨by rfl, rfl⟩) (by assumption) ?_
            go_simp
            refine wpAnyH_take (i := 16) (v := undef) rfl (by kernel_rfl) (by kernel_rfl) (by kernel_rfl) (fun _ _ _ h => h) (Or.inr ⟨by rfl, rfl⟩) (by assumption) ?_
            go_simp
            refine wpAnyH_take (i := 17) (v := undef) rfl (by kernel_rfl) (by kernel_rfl) (by kernel_rfl) (fun _ _ _ h => h) (Or.inr ⟨by rfl, rfl⟩) (by assumption) ?_
            go_simp
            refine wpAnyH_take (i := 18) (v := undef) rfl (by kernel_rfl) (by kernel_rfl) (by kernel_rfl) (fun _ _ _ h => h) (Or.inr ⟨by rfl, rfl⟩) (by assumption) ?_
            go_simp
            refine wpAnyH_take (i := 19) (v := undef) rfl (by kernel_rfl) (by kernel_rfl) (by kernel_rfl) (fun _ _ _ h => h) (Or.inr ⟨by rfl, rfl⟩) (by assumption) ?_
            go_simp
            refine wpAnyH_take (i := 20) (v := undef) rfl (by kernel_rfl) (by kernel_rfl) (by kernel_rfl) (fun _ _ _ h => h) (Or.inr ⟨by rfl, rfl⟩) (by assumption) ?_
            go_simp
            refine wpAnyH_take (i := 21) (v := undef) rfl (by kernel_rfl) (by kernel_rfl) (by kernel_rfl) (fun _ _ _ h => h) (Or.inr ⟨by rfl, rfl⟩) (by assumption) ?_
            go_simp
            refine wpAnyH_take (i := 22) (v := undef) rfl (by kernel_rfl) (by kernel_rfl) (by kernel_rfl) (fun _ _ _ h => h) (Or.inr ⟨by rfl, rfl⟩) (by assumption) ?_
            go_simp
            refine wpAnyH_take (i := 23) (v := undef) rfl (by kernel_rfl) (by kernel_rfl) (by kernel_rfl) (fun _ _ _ h => h) (Or.inr ⟨by rfl, rfl⟩) (by assumption) ?_
            go_simp
            refine wpAnyH_take (i := 24) (v := undef) rfl (by kernel_rfl) (by kernel_rfl) (by kernel_rfl) (fun _ _ _ h => h) (Or.inr ⟨by rfl, rfl⟩) (by assumption) ?_
            go_simp
            refine wpAnyH_take (i := 25) (v := undef) rfl (by kernel_rfl) (by kernel_rfl) (by kernel_rfl) (fun _ _ _ h => h) (Or.inr ⟨by rfl, rfl⟩) (by assumption) ?_
            go_simp
            refine wpAnyH_take (i := 26) (v := undef) rfl (by kernel_rfl) (by kernel_rfl) (by kernel_rfl) (fun _ _ _ h => h) (Or.inr ⟨by rfl, rfl⟩) (by assumption) ?_
            go_simp
            refine wpAnyH_take (i := 27) (v := undef) rfl (by kernel_rfl) (by kernel_rfl) (by kernel_rfl) (fun _ _ _ h => h) (Or.inr ⟨by rfl, rfl⟩) (by assumption) ?_
            go_simp
            refine wpAnyH_take (i := 28) (v := undef) rfl (by kernel_rfl) (by kernel_rfl) (by kernel_rfl) (fun _ _ _ h => h) (Or.inr ⟨by rfl, rfl⟩) (by assumption) ?_
            go_simp
            refine wpAnyH_take (i := 29) (v := undef) rfl (by kernel_rfl) (by kernel_rfl) (by kernel_rfl) (fun _ _ _ h => h) (Or.inr ⟨by rfl, rfl⟩) (by assumption) ?_
            go_simp
            refine wpAnyH_take (i := 30) (v := undef) rfl (by kernel_rfl) (by kernel_rfl) (by kernel_rfl) (fun _ _ _ h => h) (Or.inr ⟨by rfl, rfl⟩) (by assumption) ?_
            go_simp
            refine wpAnyH_take (i := 31) (v := undef) rfl (by kernel_rfl) (by kernel_rfl) (by kernel_rfl) (fun _ _ _ h => h) (Or.inr ⟨by rfl, rfl⟩) (by assumption) ?_
            go_simp
            refine wpAnyH_take (i := 32) (v := undef) rfl (by kernel_rfl) (by kernel_rfl) (by kernel_rfl) (fun _ _ _ h => h) (Or.inr ⟨by rfl, rfl⟩) (by assumption) ?_
            go_simp
            refine wpAnyH_take (i := 33) (v := undef) rfl (by kernel_rfl) (by kernel_rfl) (by kernel_rfl) (fun _ _ _ h => h) (Or.inr ⟨by rfl, rfl⟩) (by assumption) ?_
            go_simp
            refine wpAnyH_take (i := 34) (v := undef) rfl (by kernel_rfl) (by kernel_rfl) (by kernel_rfl) (fun _ _ _ h => h) (Or.inr ⟨by rfl, rfl⟩) (by assumption) ?_
            go_simp
            refine wpAnyH_take (i := 35) (v := undef) rfl (by kernel_rfl) (by kernel_rfl) (by kernel_rfl) (fun _ _ _ h => h) (Or.inr ⟨by rfl, rfl⟩) (by assumption) ?_
            go_simp
            refine wpAnyH_take (i := 36) (v := undef) rfl (by kernel_rfl) (by kernel_rfl) (by kernel_rfl) (fun _ _ _ h => h) (Or.inr ⟨by rfl, rfl⟩) (by assumption) ?_
            go_simp
            refine wpAnyH_take (i := 37) (v := undef) rfl (by kernel_rfl) (by kernel_rfl) (by kernel_rfl) (fun _ _ _ h => h) (Or.inr ⟨by rfl, rfl⟩) (by assumption) ?_
            go_simp
            refine wpAnyH_take (i := 38) (v := undef) rfl (by kernel_rfl) (by kernel_rfl) (by kernel_rfl) (fun _ _ _ h => h) (Or.inr ⟨by rfl, rfl⟩) (by assumption) ?_
            go_simp
            refine wpAnyH_take (i := 39) (v := Value.bool false) rfl (by kernel_rfl) (by kernel_rfl) (by kernel_rfl) (fun _ _ _ h => h) (Or.inl ⟨by rfl, ?hhre39⟩) (by assumption) ?rrre39
            case hhre39 => (intro wz9 hSw; (try dsimp only at hSw); go_simp; try with_reducible rfl)
            go_simp
            refine wpAnyH_done (by kernel_rfl) ?_ _
            go_wp2
            go_roundw
            case rel => exact ⟨1, by go_num, by omega, HE, ((hk.trans hk2).trans hk3).drew⟩
            case measure => simp [intOf]; omega
          · obtain ⟨b9, of9, he9, hb9, o0, _, _, _⟩ := (hr.keptNo hk).prop (k := i) (by omega)
            injection he9 with he9
            injection he9 with e9 e8
            subst e9 e8
            have hil : i < L.length := by omega
            have h0i : (0 : Int) ≤ (i : Int) + 1 := by omega
            have hwi : IntKind.i64.wrap (i : Int) = (i : Int) := by
              have h9 : (i : Int) < 1000000 := by omega
              rw [IntKind.wrap_i64]; omega
            have hpv : prevId L (i + 1) = some L[i].id := by simp [prevId, List.getElem?_eq_getElem (show i < L.length by omega)]
            rw [hpv] at HG2
            have h8 := (HW.out _ (List.getElem_mem (show i < L.length by omega))).hid
            generalize L[i].id = pid at *
            clear hpv
            have HE0 : Hid ((followsB k pid id && (chkGo k (prevId L (i + 1 + 1)) (L.drop (i + 1 + 1)) && (s2 || !s1))) = R) := Lib.hid (by rw [← HG2.out, HP1.out]; simp [folB, Bool.and_assoc])
            clear HG2 HP1
            rcases Nat.lt_trichotomy pid id with hlt9 | heq9 | hgt9
            · have hfo : followsB k pid id = true := by simp [followsB, hlt9]
              have HE : Hid ((chkGo k (prevId L (i + 1 + 1)) (L.drop (i + 1 + 1)) && (s2 || !s1)) = R) := Lib.hid (by rw [← HE0.out, hfo]; rfl)
              have g1 : decide ((id : Int) < (pid : Int)) = false := by simp; omega
              have g1n : decide (id < pid) = false := by simp; omega
              have g2 : ((pid : Int) == (id : Int)) = false := by simp; omega
              have g2n : (pid == id) = false := by simp; omega
              clear hfo HE0
              go_wp2_with (first
                | (go_at_call 69; refine (HV.out _).mono ?_; rintro e w2 ⟨rfl, hk2⟩; have y0 := (hk2.cell hb (fun f => f)).trans q0)
                | (go_at_call 70; refine (HF.out _).mono ?_; rintro e w3 ⟨rfl, hk3⟩))
              have hk9 := (hk.trans hk2).trans hk3
              have ob := hk2.trans hk3
              have hb3 : b < w3.heap.size := Nat.lt_of_lt_of_le hb ob.size
              have y0 := (ob.cell (p := ⟨b, off + (i + 1) * 4, none⟩) hb (fun f => f)).trans q0
              have o0 := (ob.cell (p := ⟨b, off + i * 4, none⟩) hb (fun f => f)).trans o0
              refine wp_region_held_drew (S := (fun wx => wx.cell? ⟨b, off + i * 4, none⟩ = some (.int .u8 pid) ∧ wx.cell? ⟨b, off + (i + 1) * 4, none⟩ = some (.int .u8 id))) (by kernel_rfl) ?_ (fun hHeld => ?_)
              · exact ⟨by simpa using o0, by simpa using y0⟩
              refine wpAnyH_take (i := 0) (v := ?vvra0) rfl (by kernel_rfl) (by kernel_rfl) (by kernel_rfl) (fun _ _ _ h => h) (Or.inl ⟨by rfl, ?hhra0⟩) (by assumption) ?rrra0
              case hhra0 => (intro wz9 hSw; (try dsimp only at hSw); go_simp; try with_reducible rfl)
              go_simp
              refine wpAnyH_take (i := 1) (v := Value.bool true) rfl (by kernel_rfl) (by kernel_rfl) (by kernel_rfl) (fun _ _ _ h => h) (Or.inl ⟨by rfl, ?hhra1⟩) (by assumption) ?rrra1
              case hhra1 => (intro wz9 hSw; (try dsimp only at hSw); go_simp; try with_reducible rfl)
              go_simp
              refine wpAnyH_take (i := 2) (v := Value.bool true) rfl (by kernel_rfl) (by kernel_rfl) (by kernel_rfl) (fun _ _ _ h => h) (Or.inl ⟨by rfl, ?hhra2⟩) (by assumption) ?rrra2
              case hhra2 => (intro wz9 hSw; (try dsimp only at hSw); go_simp; try with_reducible rfl)
              go_simp
              refine wpAnyH_take (i := 3) (v := ?vvra3) rfl (by kernel_rfl) (by kernel_rfl) (by kernel_rfl) (fun _ _ _ h => h) (Or.inl ⟨by rfl, ?hhra3⟩) (by assumption) ?rrra3
              case hhra3 => (intro wz9 hSw; (try dsimp only at hSw); go_simp; try with_reducible rfl)
              go_simp
              refine wpAnyH_take (i := 4) (v := ?vvra4) rfl (by kernel_rfl) (by kernel_rfl) (by kernel_rfl) (fun _ _ _ h => h) (Or.inl ⟨by rfl, ?hhra4⟩) (by assumption) ?rrra4
              case hhra4 => (intro wz9 hSw; (try dsimp only at hSw); go_simp; try with_reducible rfl)
              go_simp
              refine wpAnyH_take (i := 5) (v := Value.int .i64 (i : Nat)) rfl (by kernel_rfl) (by kernel_rfl) (by kernel_rfl) (fun _ _ _ h => h) (Or.inl ⟨by rfl, ?hhra5⟩) (by assumption) ?rrra5
              case hhra5 => (intro wz9 hSw; (try dsimp only at hSw); go_simp; (try rw [hwi]); (try rw [if_pos h0i]); try with_reducible rfl)
              go_simp
              refine wpAnyH_take (i := 6) (v := ?vvra6) rfl (by kernel_rfl) (by kernel_rfl) (by kernel_rfl) (fun _ _ _ h => h) (Or.inl ⟨by rfl, ?hhra6⟩) (by assumption) ?rrra6
              case hhra6 => (intro wz9 hSw; (try dsimp only at hSw); go_simp; try with_reducible rfl)
              go_simp
              refine wpAnyH_take (i := 7) (v := ?vvra7) rfl (by kernel_rfl) (by kernel_rfl) (by kernel_rfl) (fun _ _ _ h => h) (Or.inl ⟨by rfl, ?hhra7⟩) (by assumption) ?rrra7
              case hhra7 => (intro wz9 hSw; (try dsimp only at hSw); go_simp; try with_reducible rfl)
              go_simp
              refine wpAnyH_take (i := 8) (v := Value.int .u8 pid) rfl (by kernel_rfl) (by kernel_rfl) (by kernel_rfl) (fun _ _ _ h => h) (Or.inl ⟨by rfl, ?hhra8⟩) (by assumption) ?rrra8
              case hhra8 => (intro wz9 hSw; (try dsimp only at hSw); go_simp; try with_reducible rfl)
              go_simp
              refine wpAnyH_take (i := 9) (v := ?vvra9) rfl (by kernel_rfl) (by kernel_rfl) (by kernel_rfl) (fun _ _ _ h => h) (Or.inl ⟨by rfl, ?hhra9⟩) (by assumption) ?rrra9
              case hhra9 => (intro wz9 hSw; (try dsimp only at hSw); go_simp; try with_reducible rfl)
              go_simp
              refine wpAnyH_take (i := 10) (v := ?vvra10) rfl (by kernel_rfl) (by kernel_rfl) (by kernel_rfl) (fun _ _ _ h => h) (Or.inl ⟨by rfl, ?hhra10⟩) (by assumption) ?rrra10
              case hhra10 => (intro wz9 hSw; (try dsimp only at hSw); go_simp; try with_reducible rfl)
              go_simp
              refine wpAnyH_take (i := 11) (v := ?vvra11) rfl (by kernel_rfl) (by kernel_rfl) (by kernel_rfl) (fun _ _ _ h => h) (Or.inl ⟨by rfl, ?hhra11⟩) (by assumption) ?rrra11
              case hhra11 => (intro wz9 hSw; (try dsimp only at hSw); go_simp; (try rw [hwi]); (try rw [if_pos h0i]); try with_reducible rfl)
              go_simp
              refine wpAnyH_take (i := 12) (v := ?vvra12) rfl (by kernel_rfl) (by kernel_rfl) (by kernel_rfl) (fun _ _ _ h => h) (Or.inl ⟨by rfl, ?hhra12⟩) (by assumption) ?rrra12
              case hhra12 => (intro wz9 hSw; (try dsimp only at hSw); go_simp; try with_reducible rfl)
              go_simp
              refine wpAnyH_take (i := 13) (v := Value.int .u8 id) rfl (by kernel_rfl) (by kernel_rfl) (by kernel_rfl) (fun _ _ _ h => h) (Or.inl ⟨by rfl, ?hhra13⟩) (by assumption) ?rrra13
              case hhra13 => (intro wz9 hSw; (try dsimp only at hSw); go_simp; try with_reducible rfl)
              go_simp
              refine wpAnyH_take (i := 14) (v := Value.bool false) rfl (by kernel_rfl) (by kernel_rfl) (by kernel_rfl) (fun _ _ _ h => h) (Or.inl ⟨by rfl, ?hhra14⟩) (by assumption) ?rrra14
              case hhra14 => (intro wz9 hSw; (try dsimp only at hSw); go_simp; try with_reducible rfl)
              go_simp
              refine wpAnyH_take (i := 15) (v := Value.bool false) rfl (by kernel_rfl) (by kernel_rfl) (by kernel_rfl) (fun _ _ _ h => h) (Or.inl ⟨by rfl, ?hhra15⟩) (by assumption) ?rrra15
              case hhra15 => (intro wz9 hSw; (try dsimp only at hSw); go_simp; try with_reducible rfl)
              go_simp
              refine wpAnyH_take (i := 16) (v := ?vvra16) rfl (by kernel_rfl) (by kernel_rfl) (by kernel_rfl) (fun _ _ _ h => h) (Or.inl ⟨by rfl, ?hhra16⟩) (by assumption) ?rrra16
              case hhra16 => (intro wz9 hSw; (try dsimp only at hSw); go_simp; try with_reducible rfl)
              go_simp
              refine wpAnyH_take (i := 17) (v := ?vvra17) rfl (by kernel_rfl) (by kernel_rfl) (by kernel_rfl) (fun _ _ _ h => h) (Or.inl ⟨by rfl, ?hhra17⟩) (by assumption) ?rrra17
              case hhra17 => (intro wz9 hSw; (try dsimp only at hSw); go_simp; try with_reducible rfl)
              go_simp
              refine wpAnyH_take (i := 18) (v := Value.int .i64 (i : Nat)) rfl (by kernel_rfl) (by kernel_rfl) (by kernel_rfl) (fun _ _ _ h => h) (Or.inl ⟨by rfl, ?hhra18⟩) (by assumption) ?rrra18
              case hhra18 => (intro wz9 hSw; (try dsimp only at hSw); go_simp; (try rw [hwi]); (try rw [if_pos h0i]); try with_reducible rfl)
              go_simp
              refine wpAnyH_take (i := 19) (v := ?vvra19) rfl (by kernel_rfl) (by kernel_rfl) (by kernel_rfl) (fun _ _ _ h => h) (Or.inl ⟨by rfl, ?hhra19⟩) (by assumption) ?rrra19
              case hhra19 => (intro wz9 hSw; (try dsimp only at hSw); go_simp; try with_reducible rfl)
              go_simp
              refine wpAnyH_take (i := 20) (v := ?vvra20) rfl (by kernel_rfl) (by kernel_rfl) (by kernel_rfl) (fun _ _ _ h => h) (Or.inl ⟨by rfl, ?hhra20⟩) (by assumption) ?rrra20
              case hhra20 => (intro wz9 hSw; (try dsimp only at hSw); go_simp; try with_reducible rfl)
              go_simp
              refine wpAnyH_take (i := 21) (v := Value.int .u8 pid) rfl (by kernel_rfl) (by kernel_rfl) (by kernel_rfl) (fun _ _ _ h => h) (Or.inl ⟨by rfl, ?hhra21⟩) (by assumption) ?rrra21
              case hhra21 => (intro wz9 hSw; (try dsimp only at hSw); go_simp; try with_reducible rfl)
              go_simp
              refine wpAnyH_take (i := 22) (v := ?vvra22) rfl (by kernel_rfl) (by kernel_rfl) (by kernel_rfl) (fun _ _ _ h => h) (Or.inl ⟨by rfl, ?hhra22⟩) (by assumption) ?rrra22
              case hhra22 => (intro wz9 hSw; (try dsimp only at hSw); go_simp; try with_reducible rfl)
              go_simp
              refine wpAnyH_take (i := 23) (v := ?vvra23) rfl (by kernel_rfl) (by kernel_rfl) (by kernel_rfl) (fun _ _ _ h => h) (Or.inl ⟨by rfl, ?hhra23⟩) (by assumption) ?rrra23
              case hhra23 => (intro wz9 hSw; (try dsimp only at hSw); go_simp; try with_reducible rfl)
              go_simp
              refine wpAnyH_take (i := 24) (v := ?vvra24) rfl (by kernel_rfl) (by kernel_rfl) (by kernel_rfl) (fun _ _ _ h => h) (Or.inl ⟨by rfl, ?hhra24⟩) (by assumption) ?rrra24
              case hhra24 => (intro wz9 hSw; (try dsimp only at hSw); go_simp; (try rw [hwi]); (try rw [if_pos h0i]); try with_reducible rfl)
              go_simp
              refine wpAnyH_take (i := 25) (v := ?vvra25) rfl (by kernel_rfl) (by kernel_rfl) (by kernel_rfl) (fun _ _ _ h => h) (Or.inl ⟨by rfl, ?hhra25⟩) (by assumption) ?rrra25
              case hhra25 => (intro wz9 hSw; (try dsimp only at hSw); go_simp; try with_reducible rfl)
              go_simp
              refine wpAnyH_take (i := 26) (v := Value.int .u8 id) rfl (by kernel_rfl) (by kernel_rfl) (by kernel_rfl) (fun _ _ _ h => h) (Or.inl ⟨by rfl, ?hhra26⟩) (by assumption) ?rrra26
              case hhra26 => (intro wz9 hSw; (try dsimp only at hSw); go_simp; try with_reducible rfl)
              go_simp
              refine wpAnyH_take (i := 27) (v := Value.bool false) rfl (by kernel_rfl) (by kernel_rfl) (by kernel_rfl) (fun _ _ _ h => h) (Or.inl ⟨by rfl, ?hhra27⟩) (by assumption) ?rrra27
              case hhra27 => (intro wz9 hSw; (try dsimp only at hSw); go_simp; try with_reducible rfl)
              go_simp
              refine wpAnyH_take (i := 28) (v := Value.bool false) rfl (by kernel_rfl) (by kernel_rfl) (by kernel_rfl) (fun _ _ _ h => h) (Or.inl ⟨by rfl, ?hhra28⟩) (by assumption) ?rrra28
              case hhra28 => (intro wz9 hSw; (try dsimp only at hSw); go_simp; try with_reducible rfl)
              go_simp
              refine wpAnyH_take (i := 29) (v := undef) rfl (by kernel_rfl) (by kernel_rfl) (by kernel_rfl) (fun _ _ _ h => h) (Or.inr ⟨by rfl, rfl⟩) (by assumption) ?_
              go_simp
              refine wpAnyH_take (i := 30) (v := undef) rfl (by kernel_rfl) (by kernel_rfl) (by kernel_rfl) (fun _ _ _ h => h) (Or.inr ⟨by rfl, rfl⟩) (by assumption) ?_
              go_simp
              refine wpAnyH_take (i := 31) (v := undef) rfl (by kernel_rfl) (by kernel_rfl) (by kernel_rfl) (fun _ _ _ h => h) (Or.inr ⟨by rfl, rfl⟩) (by assumption) ?_
              go_simp
              refine wpAnyH_take (i := 32) (v := undef) rfl (by kernel_rfl) (by kernel_rfl) (by kernel_rfl) (fun _ _ _ h => h) (Or.inr ⟨by rfl, rfl⟩) (by assumption) ?_
              go_simp
              refine wpAnyH_take (i := 33) (v := undef) rfl (by kernel_rfl) (by kernel_rfl) (by kernel_rfl) (fun _ _ _ h => h) (Or.inr ⟨by rfl, rfl⟩) (by assumption) ?_
              go_simp
              refine wpAnyH_take (i := 34) (v := undef) rfl (by kernel_rfl) (by kernel_rfl) (by kernel_rfl) (fun _ _ _ h => h) (Or.inr ⟨by rfl, rfl⟩) (by assumption) ?_
              go_simp
              refine wpAnyH_take (i := 35) (v := undef) rfl (by kernel_rfl) (by kernel_rfl) (by kernel_rfl) (fun _ _ _ h => h) (Or.inr ⟨by rfl, rfl⟩) (by assumption) ?_
              go_simp
              refine wpAnyH_take (i := 36) (v := undef) rfl (by kernel_rfl) (by kernel_rfl) (by kernel_rfl) (fun _ _ _ h => h) (Or.inr ⟨by rfl, rfl⟩) (by assumption) ?_
              go_simp
              refine wpAnyH_take (i := 37) (v := Value.bool false) rfl (by kernel_rfl) (by kernel_rfl) (by kernel_rfl) (fun _ _ _ h => h) (Or.inl ⟨by rfl, ?hhra37⟩) (by assumption) ?rrra37
              case hhra37 => (intro wz9 hSw; (try dsimp only at hSw); go_simp; try with_reducible rfl)
              go_simp
              refine wpAnyH_take (i := 38) (v := Value.bool false) rfl (by kernel_rfl) (by kernel_rfl) (by kernel_rfl) (fun _ _ _ h => h) (Or.inl ⟨by rfl, ?hhra38⟩) (by assumption) ?rrra38
              case hhra38 => (intro wz9 hSw; (try dsimp only at hSw); go_simp; try with_reducible rfl)
              go_simp
              refine wpAnyH_take (i := 39) (v := Value.bool false) rfl (by kernel_rfl) (by kernel_rfl) (by kernel_rfl) (fun _ _ _ h => h) (Or.inl ⟨by rfl, ?hhra39⟩) (by assumption) ?rrra39
              case hhra39 => (intro wz9 hSw; (try dsimp only at hSw); go_simp; try with_reducible rfl)
              go_simp
              refine wpAnyH_done (by kernel_rfl) ?_ _
              go_wp2
              go_roundw
              case rel => exact ⟨i + 1 + 1, by go_num, by omega, HE, hk9.drew⟩
              case measure => simp [intOf]; omega
            · subst heq9
              have hfo1 : followsB k pid pid = oftenB pid k := by simp [followsB]
              have cO := fun wx => roften_any pid k wx p1
              rcases ho : oftenB pid k with _ | _
              · have hfo : followsB k pid pid = false := by rw [hfo1, ho]
                rw [ho] at cO
                have HFO := Lib.hid cO
                have HE : Hid (R = false) := Lib.hid (by rw [← HE0.out, hfo]; rfl)
                clear hfo1 hfo HE0 ho cO
                go_wp2_with (first
                  | (go_at_call 69; refine (HV.out _).mono ?_; rintro e w2 ⟨rfl, hk2⟩; have y0 := (hk2.cell hb (fun f => f)).trans q0)
                  | (go_at_call 70; refine (HF.out _).mono ?_; rintro e w3 ⟨rfl, hk3⟩))
                have hk9 := (hk.trans hk2).trans hk3
                have ob := hk2.trans hk3
                have hb3 : b < w3.heap.size := Nat.lt_of_lt_of_le hb ob.size
                have y0 := (ob.cell (p := ⟨b, off + (i + 1) * 4, none⟩) hb (fun f => f)).trans q0
                have o0 := (ob.cell (p := ⟨b, off + i * 4, none⟩) hb (fun f => f)).trans o0
                refine wp_region_held_drew (S := (fun wx => wx.cell? ⟨b, off + i * 4, none⟩ = some (.int .u8 pid) ∧ wx.cell? ⟨b, off + (i + 1) * 4, none⟩ = some (.int .u8 pid))) (by kernel_rfl) ?_ (fun hHeld => ?_)
                · exact ⟨by simpa using o0, by simpa using y0⟩
                refine wpAnyH_take (i := 0) (v := ?vvrb0) rfl (by kernel_rfl) (by kernel_rfl) (by kernel_rfl) (fun _ _ _ h => h) (Or.inl ⟨by rfl, ?hhrb0⟩) (by assumption) ?rrrb0
                case hhrb0 => (intro wz9 hSw; (try dsimp only at hSw); go_simp; try with_reducible rfl)
                go_simp
                refine wpAnyH_take (i := 1) (v := Value.bool true) rfl (by kernel_rfl) (by kernel_rfl) (by kernel_rfl) (fun _ _ _ h => h) (Or.inl ⟨by rfl, ?hhrb1⟩) (by assumption) ?rrrb1
                case hhrb1 => (intro wz9 hSw; (try dsimp only at hSw); go_simp; try with_reducible rfl)
                go_simp
                refine wpAnyH_take (i := 2) (v := Value.bool true) rfl (by kernel_rfl) (by kernel_rfl) (by kernel_rfl) (fun _ _ _ h => h) (Or.inl ⟨by rfl, ?hhrb2⟩) (by assumption) ?rrrb2
                case hhrb2 => (intro wz9 hSw; (try dsimp only at hSw); go_simp; try with_reducible rfl)
                go_simp
                refine wpAnyH_take (i := 3) (v := ?vvrb3) rfl (by kernel_rfl) (by kernel_rfl) (by kernel_rfl) (fun _ _ _ h => h) (Or.inl ⟨by rfl, ?hhrb3⟩) (by assumption) ?rrrb3
                case hhrb3 => (intro wz9 hSw; (try dsimp only at hSw); go_simp; try with_reducible rfl)
                go_simp
                refine wpAnyH_take (i := 4) (v := ?vvrb4) rfl (by kernel_rfl) (by kernel_rfl) (by kernel_rfl) (fun _ _ _ h => h) (Or.inl ⟨by rfl, ?hhrb4⟩) (by assumption) ?rrrb4
                case hhrb4 => (intro wz9 hSw; (try dsimp only at hSw); go_simp; try with_reducible rfl)
                go_simp
                refine wpAnyH_take (i := 5) (v := Value.int .i64 (i : Nat)) rfl (by kernel_rfl) (by kernel_rfl) (by kernel_rfl) (fun _ _ _ h => h) (Or.inl ⟨by rfl, ?hhrb5⟩) (by assumption) ?rrrb5
                case hhrb5 => (intro wz9 hSw; (try dsimp only at hSw); go_simp; (try rw [hwi]); (try rw [if_pos h0i]); try with_reducible rfl)
                go_simp
                refine wpAnyH_take (i := 6) (v := ?vvrb6) rfl (by kernel_rfl) (by kernel_rfl) (by kernel_rfl) (fun _ _ _ h => h) (Or.inl ⟨by rfl, ?hhrb6⟩) (by assumption) ?rrrb6
                case hhrb6 => (intro wz9 hSw; (try dsimp only at hSw); go_simp; try with_reducible rfl)
                go_simp
                refine wpAnyH_take (i := 7) (v := ?vvrb7) rfl (by kernel_rfl) (by kernel_rfl) (by kernel_rfl) (fun _ _ _ h => h) (Or.inl ⟨by rfl, ?hhrb7⟩) (by assumption) ?rrrb7
                case hhrb7 => (intro wz9 hSw; (try dsimp only at hSw); go_simp; try with_reducible rfl)
                go_simp
                refine wpAnyH_take (i := 8) (v := Value.int .u8 pid) rfl (by kernel_rfl) (by kernel_rfl) (by kernel_rfl) (fun _ _ _ h => h) (Or.inl ⟨by rfl, ?hhrb8⟩) (by assumption) ?rrrb8
                case hhrb8 => (intro wz9 hSw; (try dsimp only at hSw); go_simp; try with_reducible rfl)
                go_simp
                refine wpAnyH_take (i := 9) (v := ?vvrb9) rfl (by kernel_rfl) (by kernel_rfl) (by kernel_rfl) (fun _ _ _ h => h) (Or.inl ⟨by rfl, ?hhrb9⟩) (by assumption) ?rrrb9
                case hhrb9 => (intro wz9 hSw; (try dsimp only at hSw); go_simp; try with_reducible rfl)
                go_simp
                refine wpAnyH_take (i := 10) (v := ?vvrb10) rfl (by kernel_rfl) (by kernel_rfl) (by kernel_rfl) (fun _ _ _ h => h) (Or.inl ⟨by rfl, ?hhrb10⟩) (by assumption) ?rrrb10
                case hhrb10 => (intro wz9 hSw; (try dsimp only at hSw); go_simp; try with_reducible rfl)
                go_simp
                refine wpAnyH_take (i := 11) (v := ?vvrb11) rfl (by kernel_rfl) (by kernel_rfl) (by kernel_rfl) (fun _ _ _ h => h) (Or.inl ⟨by rfl, ?hhrb11⟩) (by assumption) ?rrrb11
                case hhrb11 => (intro wz9 hSw; (try dsimp only at hSw); go_simp; (try rw [hwi]); (try rw [if_pos h0i]); try with_reducible rfl)
                go_simp
                refine wpAnyH_take (i := 12) (v := ?vvrb12) rfl (by kernel_rfl) (by kernel_rfl) (by kernel_rfl) (fun _ _ _ h => h) (Or.inl ⟨by rfl, ?hhrb12⟩) (by assumption) ?rrrb12
                case hhrb12 => (intro wz9 hSw; (try dsimp only at hSw); go_simp; try with_reducible rfl)
                go_simp
                refine wpAnyH_take (i := 13) (v := Value.int .u8 pid) rfl (by kernel_rfl) (by kernel_rfl) (by kernel_rfl) (fun _ _ _ h => h) (Or.inl ⟨by rfl, ?hhrb13⟩) (by assumption) ?rrrb13
                case hhrb13 => (intro wz9 hSw; (try dsimp only at hSw); go_simp; try with_reducible rfl)
                go_simp
                refine wpAnyH_take (i := 14) (v := Value.bool false) rfl (by kernel_rfl) (by kernel_rfl) (by kernel_rfl) (fun _ _ _ h => h) (Or.inl ⟨by rfl, ?hhrb14⟩) (by assumption) ?rrrb14
                case hhrb14 => (intro wz9 hSw; (try dsimp only at hSw); go_simp; try with_reducible rfl)
                go_simp
                refine wpAnyH_take (i := 15) (v := Value.bool false) rfl (by kernel_rfl) (by kernel_rfl) (by kernel_rfl) (fun _ _ _ h => h) (Or.inl ⟨by rfl, ?hhrb15⟩) (by assumption) ?rrrb15
                case hhrb15 => (intro wz9 hSw; (try dsimp only at hSw); go_simp; try with_reducible rfl)
                go_simp
                refine wpAnyH_take (i := 16) (v := ?vvrb16) rfl (by kernel_rfl) (by kernel_rfl) (by kernel_rfl) (fun _ _ _ h => h) (Or.inl ⟨by rfl, ?hhrb16⟩) (by assumption) ?rrrb16
                case hhrb16 => (intro wz9 hSw; (try dsimp only at hSw); go_simp; try with_reducible rfl)
                go_simp
                refine wpAnyH_take (i := 17) (v := ?vvrb17) rfl (by kernel_rfl) (by kernel_rfl) (by kernel_rfl) (fun _ _ _ h => h) (Or.inl ⟨by rfl, ?hhrb17⟩) (by assumption) ?rrrb17
                case hhrb17 => (intro wz9 hSw; (try dsimp only at hSw); go_simp; try with_reducible rfl)
                go_simp
                refine wpAnyH_take (i := 18) (v := Value.int .i64 (i : Nat)) rfl (by kernel_rfl) (by kernel_rfl) (by kernel_rfl) (fun _ _ _ h => h) (Or.inl ⟨by rfl, ?hhrb18⟩) (by assumption) ?rrrb18
                case hhrb18 => (intro wz9 hSw; (try dsimp only at hSw); go_simp; (try rw [hwi]); (try rw [if_pos h0i]); try with_reducible rfl)
                go_simp
                refine wpAnyH_take (i := 19) (v := ?vvrb19) rfl (by kernel_rfl) (by kernel_rfl) (by kernel_rfl) (fun _ _ _ h => h) (Or.inl ⟨by rfl, ?hhrb19⟩) (by assumption) ?rrrb19
                case hhrb19 => (intro wz9 hSw; (try dsimp only at hSw); go_simp; try with_reducible rfl)
                go_simp
                refine wpAnyH_take (i := 20) (v := ?vvrb20) rfl (by kernel_rfl) (by kernel_rfl) (by kernel_rfl) (fun _ _ _ h => h) (Or.inl ⟨by rfl, ?hhrb20⟩) (by assumption) ?rrrb20
                case hhrb20 => (intro wz9 hSw; (try dsimp only at hSw); go_simp; try with_reducible rfl)
                go_simp
                refine wpAnyH_take (i := 21) (v := Value.int .u8 pid) rfl (by kernel_rfl) (by kernel_rfl) (by kernel_rfl) (fun _ _ _ h => h) (Or.inl ⟨by rfl, ?hhrb21⟩) (by assumption) ?rrrb21
                case hhrb21 => (intro wz9 hSw; (try dsimp only at hSw); go_simp; try with_reducible rfl)
                go_simp
                refine wpAnyH_take (i := 22) (v := ?vvrb22) rfl (by kernel_rfl) (by kernel_rfl) (by kernel_rfl) (fun _ _ _ h => h) (Or.inl ⟨by rfl, ?hhrb22⟩) (by assumption) ?rrrb22
                case hhrb22 => (intro wz9 hSw; (try dsimp only at hSw); go_simp; try with_reducible rfl)
                go_simp
                refine wpAnyH_take (i := 23) (v := ?vvrb23) rfl (by kernel_rfl) (by kernel_rfl) (by kernel_rfl) (fun _ _ _ h => h) (Or.inl ⟨by rfl, ?hhrb23⟩) (by assumption) ?rrrb23
                case hhrb23 => (intro wz9 hSw; (try dsimp only at hSw); go_simp; try with_reducible rfl)
                go_simp
                refine wpAnyH_take (i := 24) (v := ?vvrb24) rfl (by kernel_rfl) (by kernel_rfl) (by kernel_rfl) (fun _ _ _ h => h) (Or.inl ⟨by rfl, ?hhrb24⟩) (by assumption) ?rrrb24
                case hhrb24 => (intro wz9 hSw; (try dsimp only at hSw); go_simp; (try rw [hwi]); (try rw [if_pos h0i]); try with_reducible rfl)
                go_simp
                refine wpAnyH_take (i := 25) (v := ?vvrb25) rfl (by kernel_rfl) (by kernel_rfl) (by kernel_rfl) (fun _ _ _ h => h) (Or.inl ⟨by rfl, ?hhrb25⟩) (by assumption) ?rrrb25
                case hhrb25 => (intro wz9 hSw; (try dsimp only at hSw); go_simp; try with_reducible rfl)
                go_simp
                refine wpAnyH_take (i := 26) (v := Value.int .u8 pid) rfl (by kernel_rfl) (by kernel_rfl) (by kernel_rfl) (fun _ _ _ h => h) (Or.inl ⟨by rfl, ?hhrb26⟩) (by assumption) ?rrrb26
                case hhrb26 => (intro wz9 hSw; (try dsimp only at hSw); go_simp; try with_reducible rfl)
                go_simp
                refine wpAnyH_take (i := 27) (v := Value.bool true) rfl (by kernel_rfl) (by kernel_rfl) (by kernel_rfl) (fun _ _ _ h => h) (Or.inl ⟨by rfl, ?hhrb27⟩) (by assumption) ?rrrb27
                case hhrb27 => (intro wz9 hSw; (try dsimp only at hSw); go_simp; try with_reducible rfl)
                go_simp
                refine wpAnyH_take (i := 28) (v := Value.bool true) rfl (by kernel_rfl) (by kernel_rfl) (by kernel_rfl) (fun _ _ _ h => h) (Or.inl ⟨by rfl, ?hhrb28⟩) (by assumption) ?rrrb28
                case hhrb28 => (intro wz9 hSw; (try dsimp only at hSw); go_simp; try with_reducible rfl)
                go_simp
                refine wpAnyH_take (i := 29) (v := ?vvrb29) rfl (by kernel_rfl) (by kernel_rfl) (by kernel_rfl) (fun _ _ _ h => h) (Or.inl ⟨by rfl, ?hhrb29⟩) (by assumption) ?rrrb29
                case hhrb29 => (intro wz9 hSw; (try dsimp only at hSw); go_simp; try with_reducible rfl)
                go_simp
                refine wpAnyH_take (i := 30) (v := ?vvrb30) rfl (by kernel_rfl) (by kernel_rfl) (by kernel_rfl) (fun _ _ _ h => h) (Or.inl ⟨by rfl, ?hhrb30⟩) (by assumption) ?rrrb30
                case hhrb30 => (intro wz9 hSw; (try dsimp only at hSw); go_simp; try with_reducible rfl)
                go_simp
                refine wpAnyH_take (i := 31) (v := ?vvrb31) rfl (by kernel_rfl) (by kernel_rfl) (by kernel_rfl) (fun _ _ _ h => h) (Or.inl ⟨by rfl, ?hhrb31⟩) (by assumption) ?rrrb31
                case hhrb31 => (intro wz9 hSw; (try dsimp only at hSw); go_simp; (try rw [hwi]); (try rw [if_pos h0i]); try with_reducible rfl)
                go_simp
                refine wpAnyH_take (i := 32) (v := ?vvrb32) rfl (by kernel_rfl) (by kernel_rfl) (by kernel_rfl) (fun _ _ _ h => h) (Or.inl ⟨by rfl, ?hhrb32⟩) (by assumption) ?rrrb32
                case hhrb32 => (intro wz9 hSw; (try dsimp only at hSw); go_simp; try with_reducible rfl)
                go_simp
                refine wpAnyH_take (i := 33) (v := Value.int .u8 pid) rfl (by kernel_rfl) (by kernel_rfl) (by kernel_rfl) (fun _ _ _ h => h) (Or.inl ⟨by rfl, ?hhrb33⟩) (by assumption) ?rrrb33
                case hhrb33 => (intro wz9 hSw; (try dsimp only at hSw); go_simp; try with_reducible rfl)
                go_simp
                refine wpAnyH_take (i := 34) (v := ?vvrb34) rfl (by kernel_rfl) (by kernel_rfl) (by kernel_rfl) (fun _ _ _ h => h) (Or.inl ⟨by rfl, ?hhrb34⟩) (by assumption) ?rrrb34
                case hhrb34 => (intro wz9 hSw; (try dsimp only at hSw); go_simp; try with_reducible rfl)
                go_simp
                refine wpAnyH_ready (rs := [35]) (by kernel_rfl) (by simp) ?_
                refine AllReadyH.cons rfl (fun K9 hK9 => ?_) AllReadyH.nil
                go_simp
                go_wp2_with (go_at_call 71; refine (HFO.out _).mono ?_; rintro e w4 ⟨rfl, hk4⟩)
                refine hK9.out _ _ ?_ (fun hHeld => ?_)
                · exact ⟨(hk4.cell (by simpa using hb3) (fun f => f)).trans hHeld.1, (hk4.cell (by simpa using hb3) (fun f => f)).trans hHeld.2⟩
                clear hK9 K9
                refine wpAnyH_take (i := 36) (v := Value.bool true) rfl (by kernel_rfl) (by kernel_rfl) (by kernel_rfl) (fun _ _ _ h => h) (Or.inl ⟨by rfl, ?hhrb36⟩) (by assumption) ?rrrb36
                case hhrb36 => (intro wz9 hSw; (try dsimp only at hSw); go_simp; try with_reducible rfl)
                go_simp
                refine wpAnyH_take (i := 37) (v := Value.bool true) rfl (by kernel_rfl) (by kernel_rfl) (by kernel_rfl) (fun _ _ _ h => h) (Or.inl ⟨by rfl, ?hhrb37⟩) (by assumption) ?rrrb37
                case hhrb37 => (intro wz9 hSw; (try dsimp only at hSw); go_simp; try with_reducible rfl)
                go_simp
                refine wpAnyH_take (i := 38) (v := Value.bool true) rfl (by kernel_rfl) (by kernel_rfl) (by kernel_rfl) (fun _ _ _ h => h) (Or.inl ⟨by rfl, ?hhrb38⟩) (by assumption) ?rrrb38
                case hhrb38 => (intro wz9 hSw; (try dsimp only at hSw); go_simp; try with_reducible rfl)
                go_simp
                refine wpAnyH_take (i := 39) (v := Value.bool true) rfl (by kernel_rfl) (by kernel_rfl) (by kernel_rfl) (fun _ _ _ h => h) (Or.inl ⟨by rfl, ?hhrb39⟩) (by assumption) ?rrrb39
                case hhrb39 => (intro wz9 hSw; (try dsimp only at hSw); go_simp; try with_reducible rfl)
                go_simp
                refine wpAnyH_done (by kernel_rfl) ?_ _
                go_wp2
                go_ret
                exact ⟨by rw [HE.out]; rfl, hk9.drew.trans hk4⟩
              · have hfo : followsB k pid pid = true := by rw [hfo1, ho]
                rw [ho] at cO
                have HFO := Lib.hid cO
                have HE : Hid ((chkGo k (prevId L (i + 1 + 1)) (L.drop (i + 1 + 1)) && (s2 || !s1)) = R) := Lib.hid (by rw [← HE0.out, hfo]; rfl)
                clear hfo1 hfo HE0 ho cO
                go_wp2_with (first
                  | (go_at_call 69; refine (HV.out _).mono ?_; rintro e w2 ⟨rfl, hk2⟩; have y0 := (hk2.cell hb (fun f => f)).trans q0)
                  | (go_at_call 70; refine (HF.out _).mono ?_; rintro e w3 ⟨rfl, hk3⟩))
                have hk9 := (hk.trans hk2).trans hk3
                have ob := hk2.trans hk3
                have hb3 : b < w3.heap.size := Nat.lt_of_lt_of_le hb ob.size
                have y0 := (ob.cell (p := ⟨b, off + (i + 1) * 4, none⟩) hb (fun f => f)).trans q0
                have o0 := (ob.cell (p := ⟨b, off + i * 4, none⟩) hb (fun f => f)).trans o0
                refine wp_region_held_drew (S := (fun wx => wx.cell? ⟨b, off + i * 4, none⟩ = some (.int .u8 pid) ∧ wx.cell? ⟨b, off + (i + 1) * 4, none⟩ = some (.int .u8 pid))) (by kernel_rfl) ?_ (fun hHeld => ?_)
                · exact ⟨by simpa using o0, by simpa using y0⟩
                refine wpAnyH_take (i := 0) (v := ?vvrc0) rfl (by kernel_rfl) (by kernel_rfl) (by kernel_rfl) (fun _ _ _ h => h) (Or.inl ⟨by rfl, ?hhrc0⟩) (by assumption) ?rrrc0
                case hhrc0 => (intro wz9 hSw; (try dsimp only at hSw); go_simp; try with_reducible rfl)
                go_simp
                refine wpAnyH_take (i := 1) (v := Value.bool true) rfl (by kernel_rfl) (by kernel_rfl) (by kernel_rfl) (fun _ _ _ h => h) (Or.inl ⟨by rfl, ?hhrc1⟩) (by assumption) ?rrrc1
                case hhrc1 => (intro wz9 hSw; (try dsimp only at hSw); go_simp; try with_reducible rfl)
                go_simp
                refine wpAnyH_take (i := 2) (v := Value.bool true) rfl (by kernel_rfl) (by kernel_rfl) (by kernel_rfl) (fun _ _ _ h => h) (Or.inl ⟨by rfl, ?hhrc2⟩) (by assumption) ?rrrc2
                case hhrc2 => (intro wz9 hSw; (try dsimp only at hSw); go_simp; try with_reducible rfl)
                go_simp
                refine wpAnyH_take (i := 3) (v := ?vvrc3) rfl (by kernel_rfl) (by kernel_rfl) (by kernel_rfl) (fun _ _ _ h => h) (Or.inl ⟨by rfl, ?hhrc3⟩) (by assumption) ?rrrc3
                case hhrc3 => (intro wz9 hSw; (try dsimp only at hSw); go_simp; try with_reducible rfl)
                go_simp
                refine wpAnyH_take (i := 4) (v := ?vvrc4) rfl (by kernel_rfl) (by kernel_rfl) (by kernel_rfl) (fun _ _ _ h => h) (Or.inl ⟨by rfl, ?hhrc4⟩) (by assumption) ?rrrc4
                case hhrc4 => (intro wz9 hSw; (try dsimp only at hSw); go_simp; try with_reducible rfl)
                go_simp
                refine wpAnyH_take (i := 5) (v := Value.int .i64 (i : Nat)) rfl (by kernel_rfl) (by kernel_rfl) (by kernel_rfl) (fun _ _ _ h => h) (Or.inl ⟨by rfl, ?hhrc5⟩) (by assumption) ?rrrc5
                case hhrc5 => (intro wz9 hSw; (try dsimp only at hSw); go_simp; (try rw [hwi]); (try rw [if_pos h0i]); try with_reducible rfl)
                go_simp
                refine wpAnyH_take (i := 6) (v := ?vvrc6) rfl (by kernel_rfl) (by kernel_rfl) (by kernel_rfl) (fun _ _ _ h => h) (Or.inl ⟨by rfl, ?hhrc6⟩) (by assumption) ?rrrc6
                case hhrc6 => (intro wz9 hSw; (try dsimp only at hSw); go_simp; try with_reducible rfl)
                go_simp
                refine wpAnyH_take (i := 7) (v := ?vvrc7) rfl (by kernel_rfl) (by kernel_rfl) (by kernel_rfl) (fun _ _ _ h => h) (Or.inl ⟨by rfl, ?hhrc7⟩) (by assumption) ?rrrc7
                case hhrc7 => (intro wz9 hSw; (try dsimp only at hSw); go_simp; try with_reducible rfl)
                go_simp
                refine wpAnyH_take (i := 8) (v := Value.int .u8 pid) rfl (by kernel_rfl) (by kernel_rfl) (by kernel_rfl) (fun _ _ _ h => h) (Or.inl ⟨by rfl, ?hhrc8⟩) (by assumption) ?rrrc8
                case hhrc8 => (intro wz9 hSw; (try dsimp only at hSw); go_simp; try with_reducible rfl)
                go_simp
                refine wpAnyH_take (i := 9) (v := ?vvrc9) rfl (by kernel_rfl) (by kernel_rfl) (by kernel_rfl) (fun _ _ _ h => h) (Or.inl ⟨by rfl, ?hhrc9⟩) (by assumption) ?rrrc9
                case hhrc9 => (intro wz9 hSw; (try dsimp only at hSw); go_simp; try with_reducible rfl)
                go_simp
                refine wpAnyH_take (i := 10) (v := ?vvrc10) rfl (by kernel_rfl) (by kernel_rfl) (by kernel_rfl) (fun _ _ _ h => h) (Or.inl ⟨by rfl, ?hhrc10⟩) (by assumption) ?rrrc10
                case hhrc10 => (intro wz9 hSw; (try dsimp only at hSw); go_simp; try with_reducible rfl)
                go_simp
                refine wpAnyH_take (i := 11) (v := ?vvrc11) rfl (by kernel_rfl) (by kernel_rfl) (by kernel_rfl) (fun _ _ _ h => h) (Or.inl ⟨by rfl, ?hhrc11⟩) (by assumption) ?rrrc11
                case hhrc11 => (intro wz9 hSw; (try dsimp only at hSw); go_simp; (try rw [hwi]); (try rw [if_pos h0i]); try with_reducible rfl)
                go_simp
                refine wpAnyH_take (i := 12) (v := ?vvrc12) rfl (by kernel_rfl) (by kernel_rfl) (by kernel_rfl) (fun _ _ _ h => h) (Or.inl ⟨by rfl, ?hhrc12⟩) (by assumption) ?rrrc12
                case hhrc12 => (intro wz9 hSw; (try dsimp only at hSw); go_simp; try with_reducible rfl)
                go_simp
                refine wpAnyH_take (i := 13) (v := Value.int .u8 pid) rfl (by kernel_rfl) (by kernel_rfl) (by kernel_rfl) (fun _ _ _ h => h) (Or.inl ⟨by rfl, ?hhrc13⟩) (by assumption) ?rrrc13
                case hhrc13 => (intro wz9 hSw; (try dsimp only at hSw); go_simp; try with_reducible rfl)
                go_simp
                refine wpAnyH_take (i := 14) (v := Value.bool false) rfl (by kernel_rfl) (by kernel_rfl) (by kernel_rfl) (fun _ _ _ h => h) (Or.inl ⟨by rfl, ?hhrc14⟩) (by assumption) ?rrrc14
                case hhrc14 => (intro wz9 hSw; (try dsimp only at hSw); go_simp; try with_reducible rfl)
                go_simp
                refine wpAnyH_take (i := 15) (v := Value.bool false) rfl (by kernel_rfl) (by kernel_rfl) (by kernel_rfl) (fun _ _ _ h => h) (Or.inl ⟨by rfl, ?hhrc15⟩) (by assumption) ?rrrc15
                case hhrc15 => (intro wz9 hSw; (try dsimp only at hSw); go_simp; try with_reducible rfl)
                go_simp
                refine wpAnyH_take (i := 16) (v := ?vvrc16) rfl (by kernel_rfl) (by kernel_rfl) (by kernel_rfl) (fun _ _ _ h => h) (Or.inl ⟨by rfl, ?hhrc16⟩) (by assumption) ?rrrc16
                case hhrc16 => (intro wz9 hSw; (try dsimp only at hSw); go_simp; try with_reducible rfl)
                go_simp
                refine wpAnyH_take (i := 17) (v := ?vvrc17) rfl (by kernel_rfl) (by kernel_rfl) (by kernel_rfl) (fun _ _ _ h => h) (Or.inl ⟨by rfl, ?hhrc17⟩) (by assumption) ?rrrc17
                case hhrc17 => (intro wz9 hSw; (try dsimp only at hSw); go_simp; try with_reducible rfl)
                go_simp
                refine wpAnyH_take (i := 18) (v := Value.int .i64 (i : Nat)) rfl (by kernel_rfl) (by kernel_rfl) (by kernel_rfl) (fun _ _ _ h => h) (Or.inl ⟨by rfl, ?hhrc18⟩) (by assumption) ?rrrc18
                case hhrc18 => (intro wz9 hSw; (try dsimp only at hSw); go_simp; (try rw [hwi]); (try rw [if_pos h0i]); try with_reducible rfl)
                go_simp
                refine wpAnyH_take (i := 19) (v := ?vvrc19) rfl (by kernel_rfl) (by kernel_rfl) (by kernel_rfl) (fun _ _ _ h => h) (Or.inl ⟨by rfl, ?hhrc19⟩) (by assumption) ?rrrc19
                case hhrc19 => (intro wz9 hSw; (try dsimp only at hSw); go_simp; try with_reducible rfl)
                go_simp
                refine wpAnyH_take (i := 20) (v := ?vvrc20) rfl (by kernel_rfl) (by kernel_rfl) (by kernel_rfl) (fun _ _ _ h => h) (Or.inl ⟨by rfl, ?hhrc20⟩) (by assumption) ?rrrc20
                case hhrc20 => (intro wz9 hSw; (try dsimp only at hSw); go_simp; try with_reducible rfl)
                go_simp
                refine wpAnyH_take (i := 21) (v := Value.int .u8 pid) rfl (by kernel_rfl) (by kernel_rfl) (by kernel_rfl) (fun _ _ _ h => h) (Or.inl ⟨by rfl, ?hhrc21⟩) (by assumption) ?rrrc21
                case hhrc21 => (intro wz9 hSw; (try dsimp only at hSw); go_simp; try with_reducible rfl)
                go_simp
                refine wpAnyH_take (i := 22) (v := ?vvrc22) rfl (by kernel_rfl) (by kernel_rfl) (by kernel_rfl) (fun _ _ _ h => h) (Or.inl ⟨by rfl, ?hhrc22⟩) (by assumption) ?rrrc22
                case hhrc22 => (intro wz9 hSw; (try dsimp only at hSw); go_simp; try with_reducible rfl)
                go_simp
                refine wpAnyH_take (i := 23) (v := ?vvrc23) rfl (by kernel_rfl) (by kernel_rfl) (by kernel_rfl) (fun _ _ _ h => h) (Or.inl ⟨by rfl, ?hhrc23⟩) (by assumption) ?rrrc23
                case hhrc23 => (intro wz9 hSw; (try dsimp only at hSw); go_simp; try with_reducible rfl)
                go_simp
                refine wpAnyH_take (i := 24) (v := ?vvrc24) rfl (by kernel_rfl) (by kernel_rfl) (by kernel_rfl) (fun _ _ _ h => h) (Or.inl ⟨by rfl, ?hhrc24⟩) (by assumption) ?rrrc24
                case hhrc24 => (intro wz9 hSw; (try dsimp only at hSw); go_simp; (try rw [hwi]); (try rw [if_pos h0i]); try with_reducible rfl)
                go_simp
                refine wpAnyH_take (i := 25) (v := ?vvrc25) rfl (by kernel_rfl) (by kernel_rfl) (by kernel_rfl) (fun _ _ _ h => h) (Or.inl ⟨by rfl, ?hhrc25⟩) (by assumption) ?rrrc25
                case hhrc25 => (intro wz9 hSw; (try dsimp only at hSw); go_simp; try with_reducible rfl)
                go_simp
                refine wpAnyH_take (i := 26) (v := Value.int .u8 pid) rfl (by kernel_rfl) (by kernel_rfl) (by kernel_rfl) (fun _ _ _ h => h) (Or.inl ⟨by rfl, ?hhrc26⟩) (by assumption) ?rrrc26
                case hhrc26 => (intro wz9 hSw; (try dsimp only at hSw); go_simp; try with_reducible rfl)
                go_simp
                refine wpAnyH_take (i := 27) (v := Value.bool true) rfl (by kernel_rfl) (by kernel_rfl) (by kernel_rfl) (fun _ _ _ h => h) (Or.inl ⟨by rfl, ?hhrc27⟩) (by assumption) ?rrrc27
                case hhrc27 => (intro wz9 hSw; (try dsimp only at hSw); go_simp; try with_reducible rfl)
                go_simp
                refine wpAnyH_take (i := 28) (v := Value.bool true) rfl (by kernel_rfl) (by kernel_rfl) (by kernel_rfl) (fun _ _ _ h => h) (Or.inl ⟨by rfl, ?hhrc28⟩) (by assumption) ?rrrc28
                case hhrc28 => (intro wz9 hSw; (try dsimp only at hSw); go_simp; try with_reducible rfl)
                go_simp
                refine wpAnyH_take (i := 29) (v := ?vvrc29) rfl (by kernel_rfl) (by kernel_rfl) (by kernel_rfl) (fun _ _ _ h => h) (Or.inl ⟨by rfl, ?hhrc29⟩) (by assumption) ?rrrc29
                case hhrc29 => (intro wz9 hSw; (try dsimp only at hSw); go_simp; try with_reducible rfl)
                go_simp
                refine wpAnyH_take (i := 30) (v := ?vvrc30) rfl (by kernel_rfl) (by kernel_rfl) (by kernel_rfl) (fun _ _ _ h => h) (Or.inl ⟨by rfl, ?hhrc30⟩) (by assumption) ?rrrc30
                case hhrc30 => (intro wz9 hSw; (try dsimp only at hSw); go_simp; try with_reducible rfl)
                go_simp
                refine wpAnyH_take (i := 31) (v := ?vvrc31) rfl (by kernel_rfl) (by kernel_rfl) (by kernel_rfl) (fun _ _ _ h => h) (Or.inl ⟨by rfl, ?hhrc31⟩) (by assumption) ?rrrc31
                case hhrc31 => (intro wz9 hSw; (try dsimp only at hSw); go_simp; (try rw [hwi]); (try rw [if_pos h0i]); try with_reducible rfl)
                go_simp
                refine wpAnyH_take (i := 32) (v := ?vvrc32) rfl (by kernel_rfl) (by kernel_rfl) (by kernel_rfl) (fun _ _ _ h => h) (Or.inl ⟨by rfl, ?hhrc32⟩) (by assumption) ?rrrc32
                case hhrc32 => (intro wz9 hSw; (try dsimp only at hSw); go_simp; try with_reducible rfl)
                go_simp
                refine wpAnyH_take (i := 33) (v := Value.int .u8 pid) rfl (by kernel_rfl) (by kernel_rfl) (by kernel_rfl) (fun _ _ _ h => h) (Or.inl ⟨by rfl, ?hhrc33⟩) (by assumption) ?rrrc33
                case hhrc33 => (intro wz9 hSw; (try dsimp only at hSw); go_simp; try with_reducible rfl)
                go_simp
                refine wpAnyH_take (i := 34) (v := ?vvrc34) rfl (by kernel_rfl) (by kernel_rfl) (by kernel_rfl) (fun _ _ _ h => h) (Or.inl ⟨by rfl, ?hhrc34⟩) (by assumption) ?rrrc34
                case hhrc34 => (intro wz9 hSw; (try dsimp only at hSw); go_simp; try with_reducible rfl)
                go_simp
                refine wpAnyH_ready (rs := [35]) (by kernel_rfl) (by simp) ?_
                refine AllReadyH.cons rfl (fun K9 hK9 => ?_) AllReadyH.nil
                go_simp
                go_wp2_with (go_at_call 71; refine (HFO.out _).mono ?_; rintro e w4 ⟨rfl, hk4⟩)
                refine hK9.out _ _ ?_ (fun hHeld => ?_)
                · exact ⟨(hk4.cell (by simpa using hb3) (fun f => f)).trans hHeld.1, (hk4.cell (by simpa using hb3) (fun f => f)).trans hHeld.2⟩
                clear hK9 K9
                refine wpAnyH_take (i := 36) (v := Value.bool false) rfl (by kernel_rfl) (by kernel_rfl) (by kernel_rfl) (fun _ _ _ h => h) (Or.inl ⟨by rfl, ?hhrc36⟩) (by assumption) ?rrrc36
                case hhrc36 => (intro wz9 hSw; (try dsimp only at hSw); go_simp; try with_reducible rfl)
                go_simp
                refine wpAnyH_take (i := 37) (v := Value.bool false) rfl (by kernel_rfl) (by kernel_rfl) (by kernel_rfl) (fun _ _ _ h => h) (Or.inl ⟨by rfl, ?hhrc37⟩) (by assumption) ?rrrc37
                case hhrc37 => (intro wz9 hSw; (try dsimp only at hSw); go_simp; try with_reducible rfl)
                go_simp
                refine wpAnyH_take (i := 38) (v := Value.bool false) rfl (by kernel_rfl) (by kernel_rfl) (by kernel_rfl) (fun _ _ _ h => h) (Or.inl ⟨by rfl, ?hhrc38⟩) (by assumption) ?rrrc38
                case hhrc38 => (intro wz9 hSw; (try dsimp only at hSw); go_simp; try with_reducible rfl)
                go_simp
                refine wpAnyH_take (i := 39) (v := Value.bool false) rfl (by kernel_rfl) (by kernel_rfl) (by kernel_rfl) (fun _ _ _ h => h) (Or.inl ⟨by rfl, ?hhrc39⟩) (by assumption) ?rrrc39
                case hhrc39 => (intro wz9 hSw; (try dsimp only at hSw); go_simp; try with_reducible rfl)
                go_simp
                refine wpAnyH_done (by kernel_rfl) ?_ _
                go_wp2
                go_roundw
                case rel => exact ⟨i + 1 + 1, by go_num, by omega, HE, hk9.drew.trans hk4⟩
                case measure => simp [intOf]; omega
            · have hfo : followsB k pid id = false := by simp [followsB]; omega
              have HE : Hid (R = false) := Lib.hid (by rw [← HE0.out, hfo]; rfl)
              have g1 : (id : Int) < (pid : Int) := by omega
              clear hfo HE0
              go_wp2_with (first
                | (go_at_call 69; refine (HV.out _).mono ?_; rintro e w2 ⟨rfl, hk2⟩; have y0 := (hk2.cell hb (fun f => f)).trans q0)
                | (go_at_call 70; refine (HF.out _).mono ?_; rintro e w3 ⟨rfl, hk3⟩))
              have hk9 := (hk.trans hk2).trans hk3
              have ob := hk2.trans hk3
              have hb3 : b < w3.heap.size := Nat.lt_of_lt_of_le hb ob.size
              have y0 := (ob.cell (p := ⟨b, off + (i + 1) * 4, none⟩) hb (fun f => f)).trans q0
              have o0 := (ob.cell (p := ⟨b, off + i * 4, none⟩) hb (fun f => f)).trans o0
              refine wp_region_held_drew (S := (fun wx => wx.cell? ⟨b, off + i * 4, none⟩ = some (.int .u8 pid) ∧ wx.cell? ⟨b, off + (i + 1) * 4, none⟩ = some (.int .u8 id))) (by kernel_rfl) ?_ (fun hHeld => ?_)
              · exact ⟨by simpa using o0, by simpa using y0⟩
              refine wpAnyH_take (i := 0) (v := ?vvrd0) rfl (by kernel_rfl) (by kernel_rfl) (by kernel_rfl) (fun _ _ _ h => h) (Or.inl ⟨by rfl, ?hhrd0⟩) (by assumption) ?rrrd0
              case hhrd0 => (intro wz9 hSw; (try dsimp only at hSw); go_simp; try with_reducible rfl)
              go_simp
              refine wpAnyH_take (i := 1) (v := Value.bool true) rfl (by kernel_rfl) (by kernel_rfl) (by kernel_rfl) (fun _ _ _ h => h) (Or.inl ⟨by rfl, ?hhrd1⟩) (by assumption) ?rrrd1
              case hhrd1 => (intro wz9 hSw; (try dsimp only at hSw); go_simp; try with_reducible rfl)
              go_simp
              refine wpAnyH_take (i := 2) (v := Value.bool true) rfl (by kernel_rfl) (by kernel_rfl) (by kernel_rfl) (fun _ _ _ h => h) (Or.inl ⟨by rfl, ?hhrd2⟩) (by assumption) ?rrrd2
              case hhrd2 => (intro wz9 hSw; (try dsimp only at hSw); go_simp; try with_reducible rfl)
              go_simp
              refine wpAnyH_take (i := 3) (v := ?vvrd3) rfl (by kernel_rfl) (by kernel_rfl) (by kernel_rfl) (fun _ _ _ h => h) (Or.inl ⟨by rfl, ?hhrd3⟩) (by assumption) ?rrrd3
              case hhrd3 => (intro wz9 hSw; (try dsimp only at hSw); go_simp; try with_reducible rfl)
              go_simp
              refine wpAnyH_take (i := 4) (v := ?vvrd4) rfl (by kernel_rfl) (by kernel_rfl) (by kernel_rfl) (fun _ _ _ h => h) (Or.inl ⟨by rfl, ?hhrd4⟩) (by assumption) ?rrrd4
              case hhrd4 => (intro wz9 hSw; (try dsimp only at hSw); go_simp; try with_reducible rfl)
              go_simp
              refine wpAnyH_take (i := 5) (v := Value.int .i64 (i : Nat)) rfl (by kernel_rfl) (by kernel_rfl) (by kernel_rfl) (fun _ _ _ h => h) (Or.inl ⟨by rfl, ?hhrd5⟩) (by assumption) ?rrrd5
              case hhrd5 => (intro wz9 hSw; (try dsimp only at hSw); go_simp; (try rw [hwi]); (try rw [if_pos h0i]); try with_reducible rfl)
              go_simp
              refine wpAnyH_take (i := 6) (v := ?vvrd6) rfl (by kernel_rfl) (by kernel_rfl) (by kernel_rfl) (fun _ _ _ h => h) (Or.inl ⟨by rfl, ?hhrd6⟩) (by assumption) ?rrrd6
              case hhrd6 => (intro wz9 hSw; (try dsimp only at hSw); go_simp; try with_reducible rfl)
              go_simp
              refine wpAnyH_take (i := 7) (v := ?vvrd7) rfl (by kernel_rfl) (by kernel_rfl) (by kernel_rfl) (fun _ _ _ h => h) (Or.inl ⟨by rfl, ?hhrd7⟩) (by assumption) ?rrrd7
              case hhrd7 => (intro wz9 hSw; (try dsimp only at hSw); go_simp; try with_reducible rfl)
              go_simp
              refine wpAnyH_take (i := 8) (v := Value.int .u8 pid) rfl (by kernel_rfl) (by kernel_rfl) (by kernel_rfl) (fun _ _ _ h => h) (Or.inl ⟨by rfl, ?hhrd8⟩) (by assumption) ?rrrd8
              case hhrd8 => (intro wz9 hSw; (try dsimp only at hSw); go_simp; try with_reducible rfl)
              go_simp
              refine wpAnyH_take (i := 9) (v := ?vvrd9) rfl (by kernel_rfl) (by kernel_rfl) (by kernel_rfl) (fun _ _ _ h => h) (Or.inl ⟨by rfl, ?hhrd9⟩) (by assumption) ?rrrd9
              case hhrd9 => (intro wz9 hSw; (try dsimp only at hSw); go_simp; try with_reducible rfl)
              go_simp
              refine wpAnyH_take (i := 10) (v := ?vvrd10) rfl (by kernel_rfl) (by kernel_rfl) (by kernel_rfl) (fun _ _ _ h => h) (Or.inl ⟨by rfl, ?hhrd10⟩) (by assumption) ?rrrd10
              case hhrd10 => (intro wz9 hSw; (try dsimp only at hSw); go_simp; try with_reducible rfl)
              go_simp
              refine wpAnyH_take (i := 11) (v := ?vvrd11) rfl (by kernel_rfl) (by kernel_rfl) (by kernel_rfl) (fun _ _ _ h => h) (Or.inl ⟨by rfl, ?hhrd11⟩) (by assumption) ?rrrd11
              case hhrd11 => (intro wz9 hSw; (try dsimp only at hSw); go_simp; (try rw [hwi]); (try rw [if_pos h0i]); try with_reducible rfl)
              go_simp
              refine wpAnyH_take (i := 12) (v := ?vvrd12) rfl (by kernel_rfl) (by kernel_rfl) (by kernel_rfl) (fun _ _ _ h => h) (Or.inl ⟨by rfl, ?hhrd12⟩) (by assumption) ?rrrd12
              case hhrd12 => (intro wz9 hSw; (try dsimp only at hSw); go_simp; try with_reducible rfl)
              go_simp
              refine wpAnyH_take (i := 13) (v := Value.int .u8 id) rfl (by kernel_rfl) (by kernel_rfl) (by kernel_rfl) (fun _ _ _ h => h) (Or.inl ⟨by rfl, ?hhrd13⟩) (by assumption) ?rrrd13
              case hhrd13 => (intro wz9 hSw; (try dsimp only at hSw); go_simp; try with_reducible rfl)
              go_simp
              refine wpAnyH_take (i := 14) (v := Value.bool true) rfl (by kernel_rfl) (by kernel_rfl) (by kernel_rfl) (fun _ _ _ h => h) (Or.inl ⟨by rfl, ?hhrd14⟩) (by assumption) ?rrrd14
              case hhrd14 => (intro wz9 hSw; (try dsimp only at hSw); go_simp; try with_reducible rfl)
              go_simp
              refine wpAnyH_take (i := 15) (v := Value.bool true) rfl (by kernel_rfl) (by kernel_rfl) (by kernel_rfl) (fun _ _ _ h => h) (Or.inl ⟨by rfl, ?hhrd15⟩) (by assumption) ?rrrd15
              case hhrd15 => (intro wz9 hSw; (try dsimp only at hSw); go_simp; try with_reducible rfl)
              go_simp
              refine wpAnyH_take (i := 16) (v := undef) rfl (by kernel_rfl) (by kernel_rfl) (by kernel_rfl) (fun _ _ _ h => h) (Or.inr ⟨by rfl, rfl⟩) (by assumption) ?_
              go_simp
              refine wpAnyH_take (i := 17) (v := undef) rfl (by kernel_rfl) (by kernel_rfl) (by kernel_rfl) (fun _ _ _ h => h) (Or.inr ⟨by rfl, rfl⟩) (by assumption) ?_
              go_simp
              refine wpAnyH_take (i := 18) (v := undef) rfl (by kernel_rfl) (by kernel_rfl) (by kernel_rfl) (fun _ _ _ h => h) (Or.inr ⟨by rfl, rfl⟩) (by assumption) ?_
              go_simp
              refine wpAnyH_take (i := 19) (v := undef) rfl (by kernel_rfl) (by kernel_rfl) (by kernel_rfl) (fun _ _ _ h => h) (Or.inr ⟨by rfl, rfl⟩) (by assumption) ?_
              go_simp
              refine wpAnyH_take (i := 20) (v := undef) rfl (by kernel_rfl) (by kernel_rfl) (by kernel_rfl) (fun _ _ _ h => h) (Or.inr ⟨by rfl, rfl⟩) (by assumption) ?_
              go_simp
              refine wpAnyH_take (i := 21) (v := undef) rfl (by kernel_rfl) (by kernel_rfl) (by kernel_rfl) (fun _ _ _ h => h) (Or.inr ⟨by rfl, rfl⟩) (by assumption) ?_
              go_simp
              refine wpAnyH_take (i := 22) (v := undef) rfl (by kernel_rfl) (by kernel_rfl) (by kernel_rfl) (fun _ _ _ h => h) (Or.inr ⟨by rfl, rfl⟩) (by assumption) ?_
              go_simp
              refine wpAnyH_take (i := 23) (v := undef) rfl (by kernel_rfl) (by kernel_rfl) (by kernel_rfl) (fun _ _ _ h => h) (Or.inr ⟨by rfl, rfl⟩) (by assumption) ?_
              go_simp
              refine wpAnyH_take (i := 24) (v := undef) rfl (by kernel_rfl) (by kernel_rfl) (by kernel_rfl) (fun _ _ _ h => h) (Or.inr ⟨by rfl, rfl⟩) (by assumption) ?_
              go_simp
              refine wpAnyH_take (i := 25) (v := undef) rfl (by kernel_rfl) (by kernel_rfl) (by kernel_rfl) (fun _ _ _ h => h) (Or.inr ⟨by rfl, rfl⟩) (by assumption) ?_
              go_simp
              refine wpAnyH_take (i := 26) (v := undef) rfl (by kernel_rfl) (by kernel_rfl) (by kernel_rfl) (fun _ _ _ h => h) (Or.inr ⟨by rfl, rfl⟩) (by assumption) ?_
              go_simp
              refine wpAnyH_take (i := 27) (v := undef) rfl (by kernel_rfl) (by kernel_rfl) (by kernel_rfl) (fun _ _ _ h => h) (Or.inr ⟨by rfl, rfl⟩) (by assumption) ?_
              go_simp
              refine wpAnyH_take (i := 28) (v := undef) rfl (by kernel_rfl) (by kernel_rfl) (by kernel_rfl) (fun _ _ _ h => h) (Or.inr ⟨by rfl, rfl⟩) (by assumption) ?_
              go_simp
              refine wpAnyH_take (i := 29) (v := undef) rfl (by kernel_rfl) (by kernel_rfl) (by kernel_rfl) (fun _ _ _ h => h) (Or.inr ⟨by rfl, rfl⟩) (by assumption) ?_
              go_simp
              refine wpAnyH_take (i := 30) (v := undef) rfl (by kernel_rfl) (by kernel_rfl) (by kernel_rfl) (fun _ _ _ h => h) (Or.inr ⟨by rfl, rfl⟩) (by assumption) ?_
              go_simp
              refine wpAnyH_take (i := 31) (v := undef) rfl (by kernel_rfl) (by kernel_rfl) (by kernel_rfl) (fun _ _ _ h => h) (Or.inr ⟨by rfl, rfl⟩) (by assumption) ?_
              go_simp
              refine wpAnyH_take (i := 32) (v := undef) rfl (by kernel_rfl) (by kernel_rfl) (by kernel_rfl) (fun _ _ _ h => h) (Or.inr ⟨by rfl, rfl⟩) (by assumption) ?_
              go_simp
              refine wpAnyH_take (i := 33) (v := undef) rfl (by kernel_rfl) (by kernel_rfl) (by kernel_rfl) (fun _ _ _ h => h) (Or.inr ⟨by rfl, rfl⟩) (by assumption) ?_
              go_simp
              refine wpAnyH_take (i := 34) (v := undef) rfl (by kernel_rfl) (by kernel_rfl) (by kernel_rfl) (fun _ _ _ h => h) (Or.inr ⟨by rfl, rfl⟩) (by assumption) ?_
              go_simp
              refine wpAnyH_take (i := 35) (v := undef) rfl (by kernel_rfl) (by kernel_rfl) (by kernel_rfl) (fun _ _ _ h => h) (Or.inr ⟨by rfl, rfl⟩) (by assumption) ?_
              go_simp
              refine wpAnyH_take (i := 36) (v := undef) rfl (by kernel_rfl) (by kernel_rfl) (by kernel_rfl) (fun _ _ _ h => h) (Or.inr ⟨by rfl, rfl⟩) (by assumption) ?_
              go_simp
              refine wpAnyH_take (i := 37) (v := undef) rfl (by kernel_rfl) (by kernel_rfl) (by kernel_rfl) (fun _ _ _ h => h) (Or.inr ⟨by rfl, rfl⟩) (by assumption) ?_
              go_simp
              refine wpAnyH_take (i := 38) (v := Value.bool true) rfl (by kernel_rfl) (by kernel_rfl) (by kernel_rfl) (fun _ _ _ h => h) (Or.inl ⟨by rfl, ?hhrd38⟩) (by assumption) ?rrrd38
              case hhrd38 => (intro wz9 hSw; (try dsimp only at hSw); go_simp; try with_reducible rfl)
              go_simp
              refine wpAnyH_take (i := 39) (v := Value.bool true) rfl (by kernel_rfl) (by kernel_rfl) (by kernel_rfl) (fun _ _ _ h => h) (Or.inl ⟨by rfl, ?hhrd39⟩) (by assumption) ?rrrd39
              case hhrd39 => (intro wz9 hSw; (try dsimp only at hSw); go_simp; try with_reducible rfl)
              go_simp
              refine wpAnyH_done (by kernel_rfl) ?_ _
              go_wp2
              go_ret
              exact ⟨by rw [HE.out]; rfl, hk9.drew⟩
    · have HE : Hid (R = (s2 || !s1)) := Lib.hid (by rw [← HG.out, List.drop_of_length_le (by omega)]; rfl)
      have hrr := Lib.hid (hr.keptNo hk)
      clear HG HR
      go_wp2_with fail
      go_at_call 28
      refine (HG1.out _ hrr.out).mono ?_
      rintro e w2 ⟨rfl, hk2⟩
      go_wp2_with fail
      go_at_call 28
      refine (HG2.out _ (hrr.out.keptNo (hk2.alloc _))).mono ?_
      rintro e w3 ⟨rfl, hk3⟩
      rcases s2 with _ | _
      · go_wp2
        go_ret
        exact ⟨by rw [HE.out]; simp, (((hk.trans hk2).alloc _).trans hk3).alloc _⟩
      · go_wp2
        go_ret
        exact ⟨by rw [HE.out]; simp, (((hk.trans hk2).alloc _).trans hk3).alloc _⟩

end Go.Proofs.YtfcgfkgibimffaaDoor

/-
  The law's told.
-/
namespace Go.Proofs.YtfcgfkgibimffaaDoor
open Go.RowKit
set_option linter.unusedVariables false
set_option linter.unusedSimpArgs false
set_option maxRecDepth 100000

def P33 : Pr := ⟨33, 7, ⟨#[]⟩, ⟨#[]⟩⟩
theorem P33_put : putL [] [P33] = [3, 33, 0, 7] := by kernel_rfl
theorem P33_nil : putL [] [] = [0] := by kernel_rfl
theorem P33_err : takeErr [3, 33, 0, 7] 0 = 0 := by kernel_rfl
theorem P33_each : eachL (takeSec [3, 33, 0, 7] 0) = ([P33], true) := by kernel_rfl
theorem P33_take : takeR [3, 33, 0, 7] 0 = ([P33], true) := by
  unfold takeR
  rw [P33_err, P33_each, if_pos rfl, if_pos rfl]
  dsimp only
  rw [sortL_small _ (by simp)]
theorem P33_size : sizeR [P33] = 4 := by kernel_rfl
theorem P33_yes : checkB 1 [P33] = true := by kernel_rfl
theorem P33_no : checkB 3 [P33] = false := by kernel_rfl
theorem P33_wf : ∀ p ∈ [P33], p.wf' := by
  intro p hp
  obtain rfl := List.mem_singleton.1 hp
  exact ⟨by decide, by decide, by decide, by decide⟩
theorem tk33 (w : World) (r : Nat) (h : Rdr w r [3, 33, 0, 7] 0) (hT : Tabs w) : Calls Tryd.prog 18 #[.pointer (some ⟨r, 0, none⟩)] w fun e w' =>
    ∃ b o c, e = .returned (.tuple #[.slice (some ⟨b, o, none⟩) 1 c, .bool true]) ∧ Row w' (some ⟨b, o, none⟩) (PC [P33]) ∧ Kept (One r) w w' := by
  have c := ptake_any w r [3, 33, 0, 7] 0 h (by simp) hT (fun _ _ => sort_small _ (by rw [P33_each]; simp))
  rw [P33_take] at c
  refine c.mono ?_
  rintro e w' ⟨a, c, rfl, hr, hn, ha⟩
  obtain ⟨b, o, rfl, _⟩ := hr.prop (k := 0) (by simp)
  exact ⟨b, o, c, rfl, hr, ha.kept⟩
theorem cv33 {w : World} {a : Option Addr} {c : Nat} {l : List UInt8} (h : Row w a (B8 l)) (hn : a = none → l.length = 0 ∧ c = 0) : ∀ wx, Kept No w wx → (convert 25 9 (.slice a l.length c)).run Tryd.prog wx = .ok (.string ⟨l.toArray⟩) wx :=
  fun wx hk => row_str _ _ 5 Tryd.underlying25 Tryd.underlying5 Tryd.underlying9 (h.keptNo hk) c (fun h => (hn h).2)
set_option maxHeartbeats 4000000 in
theorem told6_any (w : World) (hT : Tabs w) : Calls Tryd.prog 11 #[] w fun e w' => e = .returned (.bool true) ∧ Kept No w w' := by
  have c0 := fun (a9 : Option Addr) (c9 : Nat) (wx : World) (hr : Row wx a9 (PC [P33])) (hx : Tabs wx) => put_any none 0 [] a9 c9 [P33] wx (.nil _ _) (by simp) (by simp) hr (by simp) P33_wf hx
  rw [P33_put] at c0
  have CP0 := Lib.hid c0
  clear c0
  go_enter Tryd.func11, Tryd.ntmps11
  go_wp2_with fail
  go_at_call 12
  refine (CP0.out _ _ _ (.of_cells (new_prop (p := P33))) (hT.kept ((Kept.refl No w).alloc _))).mono ?_
  rintro e w1 ⟨a1, c1, rfl, hown1, hk1⟩
  have hkw1 := ((Kept.refl No w).alloc (.cells #[.int .u8 33, .int .u32 7, .string ⟨#[]⟩, .string ⟨#[]⟩] 55)).trans hk1
  have HR1 := Lib.hid (own_row hown1)
  clear hown1 hk1
  go_wp2_with fail
  go_at_call 16
  refine (read_any a1 c1 [3, 33, 0, 7] w1 HR1.out.1 HR1.out.2 (by simp)).mono ?_
  rintro e w2 ⟨r, rfl, hrl, hrd, hk2⟩
  have hkw2 := hkw1.trans hk2
  go_wp2_with fail
  go_at_call 18
  refine (tk33 w2 r hrd (hT.kept hkw2)).mono ?_
  rintro e w3 ⟨b2, o2, c2, rfl, hr3, hk3⟩
  have hkw3 : Kept No w w3 := hkw2.then hk3 (fun i hi e => by have : i = r := e; have := hkw1.size; omega)
  have HCV := Lib.hid (cv33 (row_nobyte (HR1.out.1.keptNo hk2) hk3 (fun b e _ => by have : b = r := e; subst this; exact hrd.noByte)) HR1.out.2)
  obtain ⟨b3, o3, hbo, hbl, d0, d1, d2, d3⟩ := hr3.prop (k := 0) (by simp)
  obtain ⟨rfl, rfl⟩ : b3 = b2 ∧ o3 = o2 := by injection hbo with h; injection h with h1 h2; exact ⟨h1.symm, h2.symm⟩
  simp only [Nat.zero_mul, Nat.add_zero] at d1
  have KS : Hid (∀ wx, Kept No w3 wx → (convert 25 9 (.slice a1 4 c1)).run Tryd.prog wx = .ok (.string ⟨#[3, 33, 0, 7]⟩) wx) := HCV
  have KC : Hid (∀ wx, Kept No w3 wx → wx.cell? ⟨b3, o3 + 1, none⟩ = some (.int .u32 7)) := Lib.hid (fun wx hk => (hk.cell (p := ⟨b3, o3 + 1, none⟩) hbl (fun f => f)).trans d1)
  have CZ : Hid (∀ wx, Kept No w3 wx → Calls Tryd.prog 15 #[.slice (some ⟨b3, o3, none⟩) 1 c2] wx fun e w' => e = .returned (.int .i64 4) ∧ Kept No wx w') := Lib.hid (fun wx hk => by
    have := psize_any (some ⟨b3, o3, none⟩) c2 [P33] wx (hr3.keptNo hk) (by simp) P33_wf (hT.kept (hkw3.trans hk))
    rw [P33_size] at this
    exact this)
  have CP : Hid (∀ wx, Kept No w3 wx → Calls Tryd.prog 12 #[.slice none 0 0, .slice none 0 0] wx fun e w' => ∃ a5 c5, e = .returned (.slice a5 1 c5) ∧ (∀ wy, Kept No w' wy → (convert 25 9 (.slice a5 1 c5)).run Tryd.prog wy = .ok (.string ⟨#[0]⟩) wy) ∧ Kept No wx w') := Lib.hid (fun wx hk => by
    have c := put_any none 0 [] none 0 [] wx (.nil _ _) (by simp) (by simp) (.nil _ _) (by simp) (by simp) (hT.kept (hkw3.trans hk))
    rw [P33_nil] at c
    refine c.mono ?_
    rintro e w' ⟨a5, c5, rfl, hown5, hk5⟩
    obtain ⟨z1, z2⟩ := own_row hown5
    exact ⟨a5, c5, rfl, cv33 z1 z2, hk5⟩)
  have CK : ∀ k b, checkB k [P33] = b → Hid (∀ wx, Kept No w3 wx → Calls Tryd.prog 30 #[.int .i64 k, .slice (some ⟨b3, o3, none⟩) 1 c2] wx fun e w' => e = .returned (.bool b) ∧ Kept No wx w') := fun k b hb => Lib.hid (fun wx hk => by
    have := check_any k (some ⟨b3, o3, none⟩) c2 [P33] wx (hr3.keptNo hk) (by simp) P33_wf (hT.kept (hkw3.trans hk))
    rw [hb] at this
    exact this)
  have C1 := CK 1 true P33_yes
  have C3 := CK 3 false P33_no
  clear CK d0 d1 d2 d3 hr3 hk3 hkw2 hkw1 hrd CP0 HR1 HCV
  have hcv3 := KS.out w3 (Kept.refl No w3)
  have hce3 := KC.out w3 (Kept.refl No w3)
  go_wp2_with fail
  go_at_call 15
  refine (CZ.out _ (Kept.refl No w3)).mono ?_
  rintro e w4 ⟨rfl, k4⟩
  clear hcv3 hce3
  go_wp2_with fail
  go_at_call 12
  refine (CP.out _ k4).mono ?_
  rintro e w5 ⟨a5, c5, rfl, hcv5, hk5⟩
  have k5 := k4.trans hk5
  have hcv5 := hcv5 _ (Kept.refl No w5)
  go_wp2_with fail
  go_at_call 30
  refine (C1.out _ k5).mono ?_
  rintro e w6 ⟨rfl, hk6⟩
  have k6 := k5.trans hk6
  clear hcv5
  go_wp2_with fail
  go_at_call 30
  refine (C3.out _ k6).mono ?_
  rintro e w7 ⟨rfl, hk7⟩
  have k7 := k6.trans hk7
  go_wp2
  go_ret
  exact ⟨rfl, hkw3.trans k7⟩
end Go.Proofs.YtfcgfkgibimffaaDoor
