/-
  props.Each; the law's each.
-/
import Derived.Test.YtfhcmmmgnkinoaaDoorPxP
namespace Go.Proofs.YtfhcmmmgnkinoaaDoor
open Go.RowKit
attribute [local go_sem] Oper.semAt_some
set_option linter.unusedVariables false
set_option linter.unusedSimpArgs false
set_option maxRecDepth 100000

theorem equal_func (d f : Nat) (bs cs : Array Value) (w : World) : (Op.equalIn (d + 1) 100 (.func (.func f) bs cs) .nilFunc).run Tryd.prog w = .ok false w := by
  simp [Op.equalIn, run_underlying Tryd.underlying100]
theorem func_nil (f : Nat) (bs cs : Array Value) (w : World) : Sem.run Tryd.prog (binOp .eql 100 (.func (.func f) bs cs) .nilFunc) w = .ok (.bool false) w := by
  simp only [binOp]
  simp [Op.equal, Op.maxDepth, equal_func 9999 f bs cs w]
def EachIs (l : List UInt8) (w : World) (e : Ending) (w' : World) : Prop :=
  ∃ Bn a c, e = .returned (.func (.func 92) #[] #[.pointer (some ⟨Bn, 0, none⟩)]) ∧ w'.cell? ⟨Bn, 0, none⟩ = some (.slice a l.length c) ∧ Row w' a (B8 l) ∧ (a = none → l.length = 0 ∧ c = 0) ∧ Kept No w w'
set_option maxHeartbeats 1000000 in
theorem each_any (a : Option Addr) (c : Nat) (l : List UInt8) (w : World) (hr : Row w a (B8 l)) (hn : a = none → l.length = 0 ∧ c = 0) (hl : l.length ≤ 1000000) :
    Calls Tryd.prog 56 #[.slice a l.length c] w (EachIs l w) := by
  have HB := Lib.hid (bclone_any a c l w hr hn (by omega))
  go_enter Tryd.func56, Tryd.ntmps56
  go_wp2_with (go_at_call 43; refine HB.out.mono ?_; rintro e w1 ⟨a1, c1, rfl, hown, hk⟩)
  go_ret
  obtain ⟨q1, q2⟩ := own_row hown
  exact ⟨w1.heap.size, a1, c1, rfl, (Blk.new w1 _ _).cell 0, q1.keptNo ((Kept.refl No w1).alloc _), q2, hk.alloc _⟩

theorem op_append {F : Fence} {n : Nat} {P : Program} {o : Oper} {a : Act} {w w' : World} {K : Act → World → Prop} {Q : Exit → Act → World → Prop} (s x : Operand) (t : TypeId) {v u v' : Value} (hop : o.op = Op.call { callee := Callee.builtin Builtin.append, args := #[s, x], argTypes := #[t, t] })
    (hs : a.eval s = v) (hx : a.eval x = u) (hrun : (Builtin.append_ #[t, t] o.type #[v, u]).run P w = .ok v' w') (hK : K (a.put o.dst v') w') : o.wpIn F n P a w K Q := by
  unfold Oper.wpIn
  refine ⟨by simp [Oper.about, hop, resolve, Target.leads, Sem.run_pure], ?_⟩
  rw [Oper.semAt_plain F _ _ (by rw [hop]; intro c hc'; cases hc')]
  simp [execOp, hop, resolve, invoke, builtin, hs, hx, hrun, Result.andThen]
  exact hK
def LEachIs (l : List UInt8) (m : Nat) (w : World) (e : Ending) (w' : World) : Prop :=
  ∃ a c, e = .returned (.tuple #[.slice a (eachM l m).1.length c, .bool (eachM l m).2]) ∧ Row w' a (PC (eachM l m).1) ∧ (a = none → (eachM l m).1.length = 0 ∧ c = 0) ∧ Kept No w w'
theorem own_mid {w w' : World} {B size n a : Nat} {e : TypeId} {v : Value} {xs : List Value} (h : w.ownsRow B e size v n xs) (hk : Kept (Mid a B) w w') : w'.ownsRow B e size v n xs := by
  refine ⟨h.1, ?_⟩
  rcases h.2 with h2 | ⟨g, cap, cur, q1, q2, q3, q4⟩
  · exact .inl h2
  · exact .inr ⟨g, cap, cur, q1, q2, (hk.block g (Array.getElem?_eq_some_iff.1 q3).1 (fun hm => by have := hm.2; omega)).trans q3, q4⟩
theorem Kept.noMid {w A A' : World} {a b : Nat} (h : Kept No w A) (hk : Kept (Mid a b) A A') (ha : w.heap.size ≤ a) : Kept No w A' :=
  h.then hk fun i hi hm => by have := hm.1; omega
/-- Between two rounds of the law's each. -/
def LI (m : Nat) (w : World) (B : Nat) (pre : List (Pr × Bool)) (W : World) : Prop :=
  ∃ v, (∀ x ∈ pre, x.2 = true) ∧ pre.length ≤ m ∧ Blk W w.heap.size 3 #[.int .i64 m] ∧ Blk W (w.heap.size + 1) 22 #[.slice none 0 0] ∧ Blk W (w.heap.size + 2) 4 #[.bool false] ∧ Blk W (w.heap.size + 3) 22 #[v] ∧
    W.ownsRow B 58 4 v pre.length (PC (pre.map Prod.fst)) ∧ Kept No w W
/-- A round has left. -/
def LX (m z : Nat) (w : World) (c : Code) (pre : List (Pr × Bool)) (W : World) : Prop :=
  c = .ret ∧ ∃ (d : List (Pr × Bool)) (x : Pr × Bool) (v : Value), pre = d ++ [x] ∧ (∀ y ∈ d, y.2 = true) ∧ d.length ≤ m ∧ (x.2 = true → d.length = m) ∧ Blk W (w.heap.size + 1) 22 #[v] ∧ Blk W (w.heap.size + 2) 4 #[.bool x.2] ∧
    W.ownsRow z 58 4 v d.length (PC (d.map Prod.fst)) ∧ Kept No w W
theorem LI.abides {m : Nat} {w : World} {B z : Nat} {pre : List (Pr × Bool)} {A A' : World} (hz : w.heap.size + 4 ≤ z) (h : LI m w B pre A) (hk : Kept (Mid z B) A A') : LI m w B pre A' := by
  obtain ⟨v, h1, h2, b0, b1, b2, b3, ho, hw⟩ := h
  have n : ∀ k, k < w.heap.size + 4 → ¬ Mid z B k := fun k hk hm => by have := hm.1; omega
  exact ⟨v, h1, h2, b0.kept hk (n _ (by omega)), b1.kept hk (n _ (by omega)), b2.kept hk (n _ (by omega)), b3.kept hk (n _ (by omega)), own_mid ho hk, hw.noMid hk (by omega)⟩
theorem LX.abides {m : Nat} {w : World} {z : Nat} {c : Code} {pre : List (Pr × Bool)} {A A' : World} (hz : w.heap.size + 4 ≤ z) (h : LX m (z + 2) w c pre A) (hk : Kept (Mid z (z + 2)) A A') : LX m (z + 2) w c pre A' := by
  obtain ⟨hc, d, x, v, h1, h2, h3, h4, b1, b2, ho, hw⟩ := h
  have n : ∀ k, k < w.heap.size + 4 → ¬ Mid z (z + 2) k := fun k hk hm => by have := hm.1; omega
  exact ⟨hc, d, x, v, h1, h2, h3, h4, b1.kept hk (n _ (by omega)), b2.kept hk (n _ (by omega)), own_mid ho hk, hw.noMid hk (by omega)⟩

/-- Behind the assignment to the loop's variables: the property in a box of its own. -/
def LAx (a : Option Addr) (c m Bn z : Nat) (l : List UInt8) (w : World) (x : Pr × Bool) (a' : Act) (W : World) : Prop :=
  ∃ b, z ≤ b ∧ Blk W b 55 #[.int .u8 x.1.id, .int .u32 x.1.n, .string x.1.a, .string x.1.b] ∧ a' = { tmps := #[.slice a l.length c, .int .i64 m, undef, .pointer (some ⟨w.heap.size, 0, none⟩), .pointer (some ⟨w.heap.size + 1, 0, none⟩), .pointer (some ⟨w.heap.size + 1 + 1, 0, none⟩), .pointer (some ⟨w.heap.size + 1 + 1 + 1, 0, none⟩),
    .func (.func 92) #[] #[.pointer (some ⟨Bn, 0, none⟩)], .pointer (some ⟨b, 0, none⟩), .bool x.2, .slice a l.length c, .func (.func 92) #[] #[.pointer (some ⟨Bn, 0, none⟩)], .func (.func 92) #[] #[.pointer (some ⟨Bn, 0, none⟩)], .bool false, .func (.func 92) #[] #[.pointer (some ⟨Bn, 0, none⟩)],
    .agg #[.int .u8 x.1.id, .int .u32 x.1.n, .string x.1.a, .string x.1.b], .bool x.2, undef, undef, undef, undef, undef, undef, undef, undef, undef, undef, undef, undef, undef, undef], defers := [] }
theorem LAx.abides {a : Option Addr} {c m Bn z : Nat} {l : List UInt8} {w : World} {x : Pr × Bool} {a' : Act} {A A' : World} (h : LAx a c m Bn (z + 2) l w x a' A) (hk : Kept (Mid z (z + 2)) A A') : LAx a c m Bn (z + 2) l w x a' A' := by
  obtain ⟨b, hb, hB, he⟩ := h
  exact ⟨b, hb, hB.kept hk (fun hm => by have := hm.2; omega), he⟩
/-- The blocks that a round of the law's each turns. -/
def LS (w : World) (v : Value) : Nat → Prop := fun k => k = w.heap.size + 1 ∨ k = w.heap.size + 2 ∨ k = w.heap.size + 3 ∨ v.ownBlock = some k
theorem LS.holds {w W W' : World} {v : Value} {z B n : Nat} {xs : List Value} (hz : w.heap.size + 4 ≤ z) (hB : B ≤ W.heap.size) (hk : Kept (LS w v) W W') (ho : W.ownsRow B 58 4 v n xs)
    {u1 u2 u3 : Array Value} (b1 : Blk W (w.heap.size + 1) 22 u1) (b2 : Blk W (w.heap.size + 2) 4 u2) (b3 : Blk W (w.heap.size + 3) 22 u3) : Holds2 z B W W' := by
  refine hk.holds2 hB (fun k h1 h2 hS => ?_) (fun k cs fz hS hx => ?_)
  · rcases hS with h | h | h | h
    · omega
    · omega
    · omega
    · have := (ho.lt k h).1; omega
  · rcases hS with h | h | h | h
    · subst h; unfold Blk at b1; rw [b1] at hx; injection hx with hx; injection hx with _ h2 _; exact absurd h2 (by decide)
    · subst h; unfold Blk at b2; rw [b2] at hx; injection hx with hx; injection hx with _ h2 _; exact absurd h2 (by decide)
    · subst h; unfold Blk at b3; rw [b3] at hx; injection hx with hx; injection hx with _ h2 _; exact absurd h2 (by decide)
    · rcases ho.2 with ⟨hv, _⟩ | ⟨g, cap, cur, hv, _, hg, _⟩
      · subst hv; cases h
      · subst hv
        injection h with h
        subst h
        rw [hg] at hx
        injection hx with hx
        injection hx with _ h2 _
        exact absurd h2 (by decide)
theorem LS.no {w W W' : World} {v : Value} {n z : Nat} {xs : List Value} (hw : Kept No w W) (hk : Kept (LS w v) W W') (ho : W.ownsRow z 58 4 v n xs) (hz : w.heap.size ≤ z) : Kept No w W' :=
  hw.then hk fun i hi hS => by
    rcases hS with h | h | h | h
    · omega
    · omega
    · omega
    · have := (ho.lt i h).1; omega

theorem own_ne {w w' : World} {B size n : Nat} {e : TypeId} {v : Value} {xs : List Value} {S : Nat → Prop} (h : w.ownsRow B e size v n xs) (hk : Kept S w w') (hS : ∀ g, B ≤ g → ¬ S g) : w'.ownsRow B e size v n xs := by
  refine ⟨h.1, ?_⟩
  rcases h.2 with h2 | ⟨g, cap, cur, q1, q2, q3, q4⟩
  · exact .inl h2
  · exact .inr ⟨g, cap, cur, q1, q2, (hk.block g (Array.getElem?_eq_some_iff.1 q3).1 (hS g q2)).trans q3, q4⟩
theorem LX.leave {m z B : Nat} {w W : World} {pre : List (Pr × Bool)} {x : Pr × Bool} {v : Value} (hz : w.heap.size + 4 ≤ z) (hzB : z + 2 ≤ B) (hB : B ≤ W.heap.size) (hall : ∀ y ∈ pre, y.2 = true) (hpm : pre.length ≤ m) (hx : x.2 = true → pre.length = m)
    {u1 u2 u3 : Value} (b1 : Blk W (w.heap.size + 1) 22 #[u1]) (b2 : Blk W (w.heap.size + 2) 4 #[u2]) (b3 : Blk W (w.heap.size + 3) 22 #[u3]) (ho : W.ownsRow B 58 4 v pre.length (PC (pre.map Prod.fst))) (hw : Kept No w W) :
    Holds2 z B W ((W.setCell ⟨w.heap.size + 1, 0, none⟩ v).setCell ⟨w.heap.size + 1 + 1, 0, none⟩ (.bool x.2)) ∧ LX m (z + 2) w .ret (pre ++ [x]) ((W.setCell ⟨w.heap.size + 1, 0, none⟩ v).setCell ⟨w.heap.size + 1 + 1, 0, none⟩ (.bool x.2)) := by
  have hk : Kept (fun k => k = w.heap.size + 1 ∨ k = w.heap.size + 2) W ((W.setCell ⟨w.heap.size + 1, 0, none⟩ v).setCell ⟨w.heap.size + 1 + 1, 0, none⟩ (.bool x.2)) :=
    ((Kept.refl _ W).setCell (p := ⟨w.heap.size + 1, 0, none⟩) (.inr (.inl rfl)) v).setCell (p := ⟨w.heap.size + 1 + 1, 0, none⟩) (.inr (.inr rfl)) _
  have hk2 : Kept (LS w v) W ((W.setCell ⟨w.heap.size + 1, 0, none⟩ v).setCell ⟨w.heap.size + 1 + 1, 0, none⟩ (.bool x.2)) := hk.mono fun k _ h => by
    rcases h with h | h
    · exact .inl h
    · exact .inr (.inl h)
  refine ⟨LS.holds hz hB hk2 ho b1 b2 b3, rfl, pre, x, v, rfl, hall, hpm, hx, ?_, ?_, own_mono (own_ne ho hk fun g hg hS => by rcases hS with h | h <;> omega) hzB, LS.no hw hk2 ho (by omega)⟩
  · have := (b1.set_ 0 v).far (p := ⟨w.heap.size + 1 + 1, 0, none⟩) (by simp) (.bool x.2)
    simpa using this
  · have := (b2.far (p := ⟨w.heap.size + 1, 0, none⟩) (by simp) v).set_ 0 (.bool x.2)
    simpa using this

theorem LI.next {m z B : Nat} {w W W2 W4 : World} {pre : List (Pr × Bool)} {x : Pr} {v v4 : Value} {o : Obj} (hz : w.heap.size + 4 ≤ z) (hzB : z + 2 ≤ B) (hB : B ≤ W.heap.size) (hall : ∀ y ∈ pre, y.2 = true) (hpm : pre.length ≤ m) (hx : pre.length < m)
    {u0 : Value} (b0 : Blk W w.heap.size 3 #[.int .i64 m]) (b1 : Blk W (w.heap.size + 1) 22 #[.slice none 0 0]) (b2 : Blk W (w.heap.size + 2) 4 #[.bool false]) (b3 : Blk W (w.heap.size + 3) 22 #[u0]) (ho : W.ownsRow B 58 4 v pre.length (PC (pre.map Prod.fst))) (hw : Kept No w W)
    (hk2 : Kept No W W2) (hg : (W2.alloc o).grownBy W4 v.ownBlock) (ho4 : W4.ownsRow B 58 4 v4 (pre.length + 1) (PC (pre.map Prod.fst) ++ PC [x])) :
    Holds2 z B W (W4.setCell ⟨w.heap.size + 1 + 1 + 1, 0, none⟩ v4) ∧ LI m w B (pre ++ [(x, true)]) (W4.setCell ⟨w.heap.size + 1 + 1 + 1, 0, none⟩ v4) := by
  have hkg : Kept (LS w v) W W4 := (hk2.any.alloc o).grown hg (fun k e => .inr (.inr (.inr (.inr e))))
  have hk : Kept (LS w v) W (W4.setCell ⟨w.heap.size + 1 + 1 + 1, 0, none⟩ v4) := hkg.setCell (p := ⟨w.heap.size + 1 + 1 + 1, 0, none⟩) (.inr (.inr (.inr (.inl rfl)))) v4
  have hne : ∀ k, k < w.heap.size + 4 → v.ownBlock ≠ some k := fun k hk e => by have := (ho.lt k e).1; omega
  have up : ∀ {g t cs}, g < w.heap.size + 4 → Blk W g t cs → Blk W4 g t cs := fun hg4 hb => ((hb.kept hk2 (fun f => f)).alloc o).grown hg (hne _ hg4)
  refine ⟨LS.holds hz hB hk ho b1 b2 b3, v4, ?_, by simp; omega, (up (by omega) b0).far (p := ⟨w.heap.size + 1 + 1 + 1, 0, none⟩) (by simp; omega) v4, (up (by omega) b1).far (p := ⟨w.heap.size + 1 + 1 + 1, 0, none⟩) (by simp) v4, (up (by omega) b2).far (p := ⟨w.heap.size + 1 + 1 + 1, 0, none⟩) (by simp) v4, ?_, ?_, LS.no hw hk ho (by omega)⟩
  · intro y hy
    rcases List.mem_append.1 hy with h | h
    · exact hall y h
    · rw [List.mem_singleton.1 h]
  · have := (up (by omega) b3).set_ 0 v4
    simpa using this
  · have h5 := own_ne ho4 ((Kept.refl (One (w.heap.size + 3)) W4).setCell (p := ⟨w.heap.size + 1 + 1 + 1, 0, none⟩) (.inr rfl) v4) (fun g hg4 e => by have : g = w.heap.size + 3 := e; omega)
    rw [List.length_append, List.map_append, PC_append]
    exact h5

set_option maxHeartbeats 4000000 in
theorem leach_any (a : Option Addr) (c : Nat) (l : List UInt8) (m : Nat) (w : World) (hr : Row w a (B8 l)) (hn : a = none → l.length = 0 ∧ c = 0) (hl : l.length ≤ 100000) (hm : m ≤ 1000000) (hT : Tabs w) :
    Calls Tryd.prog 25 #[.slice a l.length c, .int .i64 m] w (LEachIs l m w) := by
  obtain ⟨i0, hi, hz0, hz1, hz2⟩ := info_parts info_rprop
  refine (callsIn_wide (n := 3)).1 ?_
  refine callsIn_of_wp_marks Tryd.func25 rfl trivial ?_ rfl
  simp only [Tryd.ntmps25, List.size_toArray, List.length_cons, List.length_nil, Nat.reduceAdd, Nat.reduceSub, Array.replicate_succ, Array.replicate_zero, List.push_toArray, List.append_toArray, List.nil_append, List.cons_append]
  gi_wp2_with fail
  have hb0 := (((Blk.new w 3 #[.int .i64 m]).alloc (.cells #[.slice none 0 0] 22)).alloc (.cells #[.bool false] 4)).alloc (.cells #[.slice none 0 0] 22)
  have hb1 := ((Blk.new (w.alloc (.cells #[.int .i64 m] 3)) 22 #[.slice none 0 0]).alloc (.cells #[.bool false] 4)).alloc (.cells #[.slice none 0 0] 22)
  have hb2 := (Blk.new ((w.alloc (.cells #[.int .i64 m] 3)).alloc (.cells #[.slice none 0 0] 22)) 4 #[.bool false]).alloc (.cells #[.slice none 0 0] 22)
  have hb3 := Blk.new (((w.alloc (.cells #[.int .i64 m] 3)).alloc (.cells #[.slice none 0 0] 22)).alloc (.cells #[.bool false] 4)) 22 #[.slice none 0 0]
  have hkA : Kept No w ((((w.alloc (.cells #[.int .i64 m] 3)).alloc (.cells #[.slice none 0 0] 22)).alloc (.cells #[.bool false] 4)).alloc (.cells #[.slice none 0 0] 22)) := ((((Kept.refl No w).alloc _).alloc _).alloc _).alloc _
  have hsA : ((((w.alloc (.cells #[.int .i64 m] 3)).alloc (.cells #[.slice none 0 0] 22)).alloc (.cells #[.bool false] 4)).alloc (.cells #[.slice none 0 0] 22)).heap.size = w.heap.size + 4 := by simp
  simp only [World.size_alloc] at hb1 hb2 hb3
  generalize (((w.alloc (.cells #[.int .i64 m] 3)).alloc (.cells #[.slice none 0 0] 22)).alloc (.cells #[.bool false] 4)).alloc (.cells #[.slice none 0 0] 22) = wA at *
  refine ⟨trivial, (callsIn_wide.2 (each_any a c l _ (hr.keptNo hkA) hn (by omega))).mono ?_⟩
  rintro e wL ⟨Bn, a1, c1, rfl, hcell, hrow, hnn, hkL⟩
  have hb0 := hb0.kept hkL (fun f => f)
  have hb1 := hb1.kept hkL (fun f => f)
  have hb2 := hb2.kept hkL (fun f => f)
  have hb3 := hb3.kept hkL (fun f => f)
  have hkw := hkA.trans hkL
  have hzL : w.heap.size + 4 ≤ wL.heap.size := by have := hkL.size; omega
  clear hkA hkL hsA
  have hfn := fun wx => func_nil 92 #[] #[.pointer (some ⟨Bn, 0, none⟩)] wx
  gi_wp2_with fail
  refine range_law (F := Fence.wide) (n := 3) rfl (by decide) (gf := 92) (lb := #[.pointer (some ⟨Bn, 0, none⟩)]) rfl trivial (enters_of Tryd.func92 (by kernel_rfl) rfl)
    (each1_seq l Bn a1 c1 _ wL hcell hrow hnn (by omega)) ?hps (LI m w) (LX m (wL.heap.size + 2) w)
    (fun B s A A' hB h hk => h.abides hzL hk) (fun B s A h => hT.kept h.choose_spec.2.2.2.2.2.2.2) (fun cc s A A' h hk => h.abides hzL hk)
    (fun B hB => ⟨.slice none 0 0, by simp, by simp, hb0, hb1, hb2, hb3, World.ownsRow_nil _ _ _ _, hkw⟩) (LAx a c m Bn (wL.heap.size + 2) l w) (fun x a' A A' h hk => h.abides hk) ?assign ?body ?done ?stop
  case hps => intro x; rfl
  case assign =>
    rintro l9 B pre ⟨⟨id, n, A, B9⟩, k⟩ W K hB hBW hi hK
    simp only [encPB]
    gi_wp2
    refine hK _ _ (((Kept.refl No W).alloc _).holds2 hBW (fun _ _ _ f => f) (fun _ _ _ f => f.elim)) (hi.abides hzL ((Kept.refl _ W).alloc _)) ⟨W.heap.size, by omega, Blk.new W _ _, rfl⟩
  case body =>
    rintro l9 B pre ⟨⟨id, n, A, B9⟩, k⟩ a' W _ hB hBW ⟨v, hall, hpm, b0, b1, b2, b3, hown, hwk⟩ ⟨b, hbz, hbp, rfl⟩
    obtain ⟨av, cv, rfl, hrv, hnv⟩ := own_form hown
    have p0 := b0.cell 0
    have p1 := b1.cell 0
    have p2 := b2.cell 0
    have p3 := b3.cell 0
    have q0 := hbp.cell 0
    have q1 := hbp.cell 1
    have q2 := hbp.cell 2
    have q3 := hbp.cell 3
    simp at p0 p1 p2 p3 q0 q1 q2 q3
    have f1 := b1.frozen 0
    have f2 := b2.frozen 0
    have f3 := b3.frozen 0
    have HALL := Lib.hid hall
    clear hall
    cases k with
    | false =>
      gi_wp2
      exact LX.leave (x := (⟨id, n, A, B9⟩, false)) hzL hB hBW HALL.out hpm (by simp) b1 b2 b3 hown hwk
    | true =>
      by_cases hge : m ≤ pre.length
      · have hgI : (m : Int) ≤ (pre.length : Int) := by omega
        gi_wp2
        exact LX.leave (x := (⟨id, n, A, B9⟩, true)) hzL hB hBW HALL.out hpm (fun _ => by omega) b1 b2 b3 hown hwk
      · have hgI : decide ((m : Int) ≤ (pre.length : Int)) = false := by simp; omega
        gi_wp2
        refine wpIn_region_any (by kernel_rfl) ?_
        refine wpAnyIn_ready (rs := [0, 1]) (by kernel_rfl) (by simp) ?_
        refine AllReadyIn.cons rfl (fun K9 hK9 => ?_) (AllReadyIn.cons rfl (fun K9 hK9 => ?_) AllReadyIn.nil)
        · go_simp
          refine hK9 _ _ ?_
          refine wpAnyIn_ready (rs := [1]) (by kernel_rfl) (by simp) ?_
          refine AllReadyIn.cons rfl (fun K9 hK9 => ?_) AllReadyIn.nil
          · go_simp
            refine hK9 _ _ ?_
            refine wpAnyIn_ready (rs := [2]) (by kernel_rfl) (by simp) ?_
            refine AllReadyIn.cons rfl (fun K9 hK9 => ?_) AllReadyIn.nil
            · go_simp
              refine ⟨trivial, (CallsIn.inRound l9 (callsIn_wide.2 (from_any id n A B9 _))).mono ?_⟩
              rintro e W2 ⟨rfl, hk2⟩
              have p3 := ((((Kept.refl No W).drew).trans hk2).cell (p := ⟨w.heap.size + 1 + 1 + 1, 0, none⟩) b3.lt (fun f => f)).trans p3
              have p3b := (((((Kept.refl No W).drew).trans hk2).alloc (.cells #[.int .u8 id, .int .u32 n, .string A, .string B9] 58)).cell (p := ⟨w.heap.size + 1 + 1 + 1, 0, none⟩) b3.lt (fun f => f)).trans (b3.cell 0)
              simp at p3b
              go_simp
              refine hK9 _ _ ?_
              refine wpAnyIn_ready (rs := [3]) (by kernel_rfl) (by simp) ?_
              refine AllReadyIn.cons rfl (fun K9 hK9 => ?_) AllReadyIn.nil
              · go_simp
                refine hK9 _ _ ?_
                refine wpAnyIn_ready (rs := [4]) (by kernel_rfl) (by simp) ?_
                refine AllReadyIn.cons rfl (fun K9 hK9 => ?_) AllReadyIn.nil
                · have hk2 : Kept No W W2 := ((Kept.refl No W).drew).trans hk2
                  obtain ⟨v4, W4, hrun, hown4, hg4, _⟩ := run_append_own (P := Tryd.prog) (W2.alloc (.cells #[.int .u8 id, .int .u32 n, .string A, .string B9] 58)) B 22 22 58 i0 _ 4 40 Tryd.underlying22 hi hz0 hz1 hz2 rfl (by decide) _ _ _ ((own_keptNo hown hk2).alloc _) ⟨W2.heap.size, 0, none⟩ 1 1 (PC [⟨id, n, A, B9⟩]) (PC_length4 [] _) (new_prop (p := ⟨id, n, A, B9⟩)) (PC_cell1 _) (by unfold maxLen; omega) (by omega) (by have := hk2.size; simp; omega)
                  obtain ⟨a4, c4, rfl, _, _⟩ := own_form hown4
                  have hb34 := ((b3.kept hk2 (fun f => f)).alloc (.cells #[.int .u8 id, .int .u32 n, .string A, .string B9] 58)).grown hg4 (fun h => by have := (hown.lt _ h).1; omega)
                  have y3 := hb34.cell 0
                  simp at y3
                  have g3 := hb34.frozen 0
                  have yl := hb34.lt
                  refine (if_pos (show Region.wanted _ _ = true from rfl)).mpr ?_
                  refine op_append (.tmp 25) (.tmp 28) 22 rfl rfl rfl hrun ?_
                  refine hK9 _ _ ?_
                  refine wpAnyIn_ready (rs := [5]) (by kernel_rfl) (by simp) ?_
                  refine AllReadyIn.cons rfl (fun K9 hK9 => ?_) AllReadyIn.nil
                  · go_simp
                    refine hK9 _ _ ?_
                    refine wpAnyIn_done (by kernel_rfl) ?_ _
                    exact LI.next (x := ⟨id, n, A, B9⟩) hzL hB hBW HALL.out hpm (by omega) b0 b1 b2 b3 hown hwk hk2 hg4 hown4
        · go_simp
          refine hK9 _ _ ?_
          refine wpAnyIn_ready (rs := [0, 2]) (by kernel_rfl) (by simp) ?_
          refine AllReadyIn.cons rfl (fun K9 hK9 => ?_) (AllReadyIn.cons rfl (fun K9 hK9 => ?_) AllReadyIn.nil)
          · go_simp
            refine hK9 _ _ ?_
            refine wpAnyIn_ready (rs := [2]) (by kernel_rfl) (by simp) ?_
            refine AllReadyIn.cons rfl (fun K9 hK9 => ?_) AllReadyIn.nil
            · go_simp
              refine ⟨trivial, (CallsIn.inRound l9 (callsIn_wide.2 (from_any id n A B9 _))).mono ?_⟩
              rintro e W2 ⟨rfl, hk2⟩
              have p3 := ((((Kept.refl No W).drew).trans hk2).cell (p := ⟨w.heap.size + 1 + 1 + 1, 0, none⟩) b3.lt (fun f => f)).trans p3
              have p3b := (((((Kept.refl No W).drew).trans hk2).alloc (.cells #[.int .u8 id, .int .u32 n, .string A, .string B9] 58)).cell (p := ⟨w.heap.size + 1 + 1 + 1, 0, none⟩) b3.lt (fun f => f)).trans (b3.cell 0)
              simp at p3b
              go_simp
              refine hK9 _ _ ?_
              refine wpAnyIn_ready (rs := [3]) (by kernel_rfl) (by simp) ?_
              refine AllReadyIn.cons rfl (fun K9 hK9 => ?_) AllReadyIn.nil
              · go_simp
                refine hK9 _ _ ?_
                refine wpAnyIn_ready (rs := [4]) (by kernel_rfl) (by simp) ?_
                refine AllReadyIn.cons rfl (fun K9 hK9 => ?_) AllReadyIn.nil
                · have hk2 : Kept No W W2 := ((Kept.refl No W).drew).trans hk2
                  obtain ⟨v4, W4, hrun, hown4, hg4, _⟩ := run_append_own (P := Tryd.prog) (W2.alloc (.cells #[.int .u8 id, .int .u32 n, .string A, .string B9] 58)) B 22 22 58 i0 _ 4 40 Tryd.underlying22 hi hz0 hz1 hz2 rfl (by decide) _ _ _ ((own_keptNo hown hk2).alloc _) ⟨W2.heap.size, 0, none⟩ 1 1 (PC [⟨id, n, A, B9⟩]) (PC_length4 [] _) (new_prop (p := ⟨id, n, A, B9⟩)) (PC_cell1 _) (by unfold maxLen; omega) (by omega) (by have := hk2.size; simp; omega)
                  obtain ⟨a4, c4, rfl, _, _⟩ := own_form hown4
                  have hb34 := ((b3.kept hk2 (fun f => f)).alloc (.cells #[.int .u8 id, .int .u32 n, .string A, .string B9] 58)).grown hg4 (fun h => by have := (hown.lt _ h).1; omega)
                  have y3 := hb34.cell 0
                  simp at y3
                  have g3 := hb34.frozen 0
                  have yl := hb34.lt
                  refine (if_pos (show Region.wanted _ _ = true from rfl)).mpr ?_
                  refine op_append (.tmp 25) (.tmp 28) 22 rfl rfl rfl hrun ?_
                  refine hK9 _ _ ?_
                  refine wpAnyIn_ready (rs := [5]) (by kernel_rfl) (by simp) ?_
                  refine AllReadyIn.cons rfl (fun K9 hK9 => ?_) AllReadyIn.nil
                  · go_simp
                    refine hK9 _ _ ?_
                    refine wpAnyIn_done (by kernel_rfl) ?_ _
                    exact LI.next (x := ⟨id, n, A, B9⟩) hzL hB hBW HALL.out hpm (by omega) b0 b1 b2 b3 hown hwk hk2 hg4 hown4
          · go_simp
            refine ⟨trivial, (CallsIn.inRound l9 (callsIn_wide.2 (from_any id n A B9 _))).mono ?_⟩
            rintro e W2 ⟨rfl, hk2⟩
            have p3 := ((((Kept.refl No W).drew).trans hk2).cell (p := ⟨w.heap.size + 1 + 1 + 1, 0, none⟩) b3.lt (fun f => f)).trans p3
            have p3b := (((((Kept.refl No W).drew).trans hk2).alloc (.cells #[.int .u8 id, .int .u32 n, .string A, .string B9] 58)).cell (p := ⟨w.heap.size + 1 + 1 + 1, 0, none⟩) b3.lt (fun f => f)).trans (b3.cell 0)
            simp at p3b
            go_simp
            refine hK9 _ _ ?_
            refine wpAnyIn_ready (rs := [0, 3]) (by kernel_rfl) (by simp) ?_
            refine AllReadyIn.cons rfl (fun K9 hK9 => ?_) (AllReadyIn.cons rfl (fun K9 hK9 => ?_) AllReadyIn.nil)
            · go_simp
              refine hK9 _ _ ?_
              refine wpAnyIn_ready (rs := [3]) (by kernel_rfl) (by simp) ?_
              refine AllReadyIn.cons rfl (fun K9 hK9 => ?_) AllReadyIn.nil
              · go_simp
                refine hK9 _ _ ?_
                refine wpAnyIn_ready (rs := [4]) (by kernel_rfl) (by simp) ?_
                refine AllReadyIn.cons rfl (fun K9 hK9 => ?_) AllReadyIn.nil
                · have hk2 : Kept No W W2 := ((Kept.refl No W).drew).trans hk2
                  obtain ⟨v4, W4, hrun, hown4, hg4, _⟩ := run_append_own (P := Tryd.prog) (W2.alloc (.cells #[.int .u8 id, .int .u32 n, .string A, .string B9] 58)) B 22 22 58 i0 _ 4 40 Tryd.underlying22 hi hz0 hz1 hz2 rfl (by decide) _ _ _ ((own_keptNo hown hk2).alloc _) ⟨W2.heap.size, 0, none⟩ 1 1 (PC [⟨id, n, A, B9⟩]) (PC_length4 [] _) (new_prop (p := ⟨id, n, A, B9⟩)) (PC_cell1 _) (by unfold maxLen; omega) (by omega) (by have := hk2.size; simp; omega)
                  obtain ⟨a4, c4, rfl, _, _⟩ := own_form hown4
                  have hb34 := ((b3.kept hk2 (fun f => f)).alloc (.cells #[.int .u8 id, .int .u32 n, .string A, .string B9] 58)).grown hg4 (fun h => by have := (hown.lt _ h).1; omega)
                  have y3 := hb34.cell 0
                  simp at y3
                  have g3 := hb34.frozen 0
                  have yl := hb34.lt
                  refine (if_pos (show Region.wanted _ _ = true from rfl)).mpr ?_
                  refine op_append (.tmp 25) (.tmp 28) 22 rfl rfl rfl hrun ?_
                  refine hK9 _ _ ?_
                  refine wpAnyIn_ready (rs := [5]) (by kernel_rfl) (by simp) ?_
                  refine AllReadyIn.cons rfl (fun K9 hK9 => ?_) AllReadyIn.nil
                  · go_simp
                    refine hK9 _ _ ?_
                    refine wpAnyIn_done (by kernel_rfl) ?_ _
                    exact LI.next (x := ⟨id, n, A, B9⟩) hzL hB hBW HALL.out hpm (by omega) b0 b1 b2 b3 hown hwk hk2 hg4 hown4
            · go_simp
              refine hK9 _ _ ?_
              refine wpAnyIn_ready (rs := [0]) (by kernel_rfl) (by simp) ?_
              refine AllReadyIn.cons rfl (fun K9 hK9 => ?_) AllReadyIn.nil
              · go_simp
                refine hK9 _ _ ?_
                refine wpAnyIn_ready (rs := [4]) (by kernel_rfl) (by simp) ?_
                refine AllReadyIn.cons rfl (fun K9 hK9 => ?_) AllReadyIn.nil
                · have hk2 : Kept No W W2 := ((Kept.refl No W).drew).trans hk2
                  obtain ⟨v4, W4, hrun, hown4, hg4, _⟩ := run_append_own (P := Tryd.prog) (W2.alloc (.cells #[.int .u8 id, .int .u32 n, .string A, .string B9] 58)) B 22 22 58 i0 _ 4 40 Tryd.underlying22 hi hz0 hz1 hz2 rfl (by decide) _ _ _ ((own_keptNo hown hk2).alloc _) ⟨W2.heap.size, 0, none⟩ 1 1 (PC [⟨id, n, A, B9⟩]) (PC_length4 [] _) (new_prop (p := ⟨id, n, A, B9⟩)) (PC_cell1 _) (by unfold maxLen; omega) (by omega) (by have := hk2.size; simp; omega)
                  obtain ⟨a4, c4, rfl, _, _⟩ := own_form hown4
                  have hb34 := ((b3.kept hk2 (fun f => f)).alloc (.cells #[.int .u8 id, .int .u32 n, .string A, .string B9] 58)).grown hg4 (fun h => by have := (hown.lt _ h).1; omega)
                  have y3 := hb34.cell 0
                  simp at y3
                  have g3 := hb34.frozen 0
                  have yl := hb34.lt
                  refine (if_pos (show Region.wanted _ _ = true from rfl)).mpr ?_
                  refine op_append (.tmp 25) (.tmp 28) 22 rfl rfl rfl hrun ?_
                  refine hK9 _ _ ?_
                  refine wpAnyIn_ready (rs := [5]) (by kernel_rfl) (by simp) ?_
                  refine AllReadyIn.cons rfl (fun K9 hK9 => ?_) AllReadyIn.nil
                  · go_simp
                    refine hK9 _ _ ?_
                    refine wpAnyIn_done (by kernel_rfl) ?_ _
                    exact LI.next (x := ⟨id, n, A, B9⟩) hzL hB hBW HALL.out hpm (by omega) b0 b1 b2 b3 hown hwk hk2 hg4 hown4
  case done =>
    rintro B xs W hzB rfl ⟨v, hall, hpm, b0, b1, b2, b3, hown, hwk⟩ hD
    obtain ⟨av, cv, rfl, hrv, hnv⟩ := own_form hown
    have p1 := b1.cell 0
    have p2 := b2.cell 0
    have p3 := b3.cell 0
    simp at p1 p2 p3
    have f1 := b1.frozen 0
    have f2 := b2.frozen 0
    gi_wp2
    have hD1 : ((W.setCell ⟨w.heap.size + 1, 0, none⟩ (.slice av (seqL l).length cv)).setCell ⟨w.heap.size + 1 + 1, 0, none⟩ (.bool true)).heap[wL.heap.size]? = some (.deferred (some [])) :=
      (Below.heap_setCell _ _ _ _ (by simp; omega)).trans ((Below.heap_setCell _ _ _ _ (by simp; omega)).trans hD)
    refine ⟨by simp, .inl ⟨_, _, rfl, run_takeDeferred hD1, ?_⟩⟩
    have EM := eachM_done hall hpm
    generalize hW9 : (((W.setCell ⟨w.heap.size + 1, 0, none⟩ (.slice av (seqL l).length cv)).setCell ⟨w.heap.size + 1 + 1, 0, none⟩ (.bool true)).putObj wL.heap.size (.deferred none)) = W9 at *
    have hkp : Kept (Mid wL.heap.size (wL.heap.size + 2)) ((W.setCell ⟨w.heap.size + 1, 0, none⟩ (.slice av (seqL l).length cv)).setCell ⟨w.heap.size + 1 + 1, 0, none⟩ (.bool true)) W9 := by rw [← hW9]; exact kept_put (w := (W.setCell ⟨w.heap.size + 1, 0, none⟩ (.slice av (seqL l).length cv)).setCell ⟨w.heap.size + 1 + 1, 0, none⟩ (.bool true)) wL.heap.size (.deferred none) (Nat.le_refl _) (by omega)
    have hk1 : Kept (fun k => k = w.heap.size + 1 ∨ k = w.heap.size + 2) W ((W.setCell ⟨w.heap.size + 1, 0, none⟩ (.slice av (seqL l).length cv)).setCell ⟨w.heap.size + 1 + 1, 0, none⟩ (.bool true)) :=
      ((Kept.refl _ W).setCell (p := ⟨w.heap.size + 1, 0, none⟩) (.inr (.inl rfl)) _).setCell (p := ⟨w.heap.size + 1 + 1, 0, none⟩) (.inr (.inr rfl)) _
    have e1 : Blk W9 (w.heap.size + 1) 22 #[.slice av (seqL l).length cv] := by
      have := (b1.set_ 0 (.slice av (seqL l).length cv)).far (p := ⟨w.heap.size + 1 + 1, 0, none⟩) (by simp) (.bool true)
      exact Blk.kept (by simpa using this) hkp (fun hm => by have := hm.1; omega)
    have e2 : Blk W9 (w.heap.size + 1 + 1) 4 #[.bool true] := by
      have := (b2.far (p := ⟨w.heap.size + 1, 0, none⟩) (by simp) (.slice av (seqL l).length cv)).set_ 0 (.bool true)
      exact Blk.kept (by simpa using this) hkp (fun hm => by have := hm.1; omega)
    have e3 := own_ne (own_ne hown hk1 (fun g hg hS => by rcases hS with h | h <;> omega)) hkp (fun g hg hm => by have := hm.2; omega)
    have hk9 : Kept No w W9 := (hwk.then hk1 (fun i hi hS => by rcases hS with h | h <;> omega)).noMid hkp (by omega)
    have y1 := e1.cell 0
    have y2 := e2.cell 0
    simp at y1 y2
    have yl1 := e1.lt
    have yl2 := e2.lt
    clear hW9 hkp
    refine ⟨.tuple #[.slice av (seqL l).length cv, .bool true], by simp [results, Tryd.results25, go_sem, y1, y2, yl1, yl2], ?_⟩
    obtain ⟨z1, z2⟩ := own_row e3
    refine ⟨av, cv, ?_, ?_, ?_, hk9⟩
    · rw [EM]; simp
    · rw [EM]; exact z1
    · rw [EM]; intro h; have := z2 h; simpa using this
  case stop =>
    rintro cc pre W hpre ⟨rfl, d, x, v, rfl, hall, hdm, hx, b1, b2, hown, hwk⟩ hD
    obtain ⟨av, cv, rfl, hrv, hnv⟩ := own_form hown
    have p1 := b1.cell 0
    have p2 := b2.cell 0
    simp at p1 p2
    have EM := eachM_stop hpre hall hdm hx
    gi_wp2
    refine ⟨by simp, .inl ⟨_, _, rfl, run_takeDeferred hD, ?_⟩⟩
    generalize hW9 : W.putObj wL.heap.size (.deferred none) = W9 at *
    have hkp : Kept (Mid wL.heap.size (wL.heap.size + 2)) W W9 := by rw [← hW9]; exact kept_put (w := W) wL.heap.size (.deferred none) (Nat.le_refl _) (by omega)
    have e1 := b1.kept hkp (fun hm => by have := hm.1; omega)
    have e2 := b2.kept hkp (fun hm => by have := hm.1; omega)
    have e3 := own_ne hown hkp (fun g hg hm => by have := hm.2; omega)
    have hk9 : Kept No w W9 := hwk.noMid hkp (by omega)
    have y1 := e1.cell 0
    have y2 := e2.cell 0
    simp at y1 y2
    have yl1 := e1.lt
    have yl2 := e2.lt
    clear hW9 hkp
    refine ⟨.tuple #[.slice av d.length cv, .bool x.2], by simp [results, Tryd.results25, go_sem, y1, y2, yl1, yl2], ?_⟩
    obtain ⟨z1, z2⟩ := own_row e3
    refine ⟨av, cv, ?_, ?_, ?_, hk9⟩
    · rw [EM]; simp
    · rw [EM]; exact z1
    · rw [EM]; intro h; have := z2 h; simpa using this

end Go.Proofs.YtfhcmmmgnkinoaaDoor
