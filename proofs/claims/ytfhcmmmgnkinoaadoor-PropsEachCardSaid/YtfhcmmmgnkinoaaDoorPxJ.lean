/-
  What is taken of bytes: a property; the walk of props.next: made by mkpxj.py.
-/
import Derived.Test.YtfhcmmmgnkinoaaDoorPxI
import Derived.Deep.DeepCutAuto
import Derived.Deep.CutBlock
namespace Go.Proofs.YtfhcmmmgnkinoaaDoor
open Go.RowKit
set_option linter.unusedVariables false
set_option linter.unusedSimpArgs false
set_option maxRecDepth 100000

/-- What is taken behind an id of type t: the property, what is left, what was wrong. -/
def typS (t id : Nat) (l : List UInt8) (e : Int) : Pr × List UInt8 × Int :=
  if t = 1 then (⟨id, num (taken 1 l e), ⟨#[]⟩, ⟨#[]⟩⟩, leftL 1 l e, leftE 1 l e)
  else if t = 2 then (⟨id, num (taken 2 l e), ⟨#[]⟩, ⟨#[]⟩⟩, leftL 2 l e, leftE 2 l e)
  else if t = 3 then (⟨id, num (taken 4 l e), ⟨#[]⟩, ⟨#[]⟩⟩, leftL 4 l e, leftE 4 l e)
  else if t = 4 then (⟨id, (rv 4 0 0 l e).1, ⟨#[]⟩, ⟨#[]⟩⟩, (rv 4 0 0 l e).2.1, (rv 4 0 0 l e).2.2)
  else if t = 5 then (⟨id, 0, ⟨(binTaken l e).toArray⟩, ⟨#[]⟩⟩, binL l e, binE l e)
  else if t = 6 then (⟨id, 0, ⟨(binTaken l e).toArray⟩, ⟨#[]⟩⟩, binL l e, binE l e)
  else if t = 7 then (⟨id, 0, ⟨(binTaken l e).toArray⟩, ⟨(binTaken (binL l e) (binE l e)).toArray⟩⟩, binL (binL l e) (binE l e), binE (binL l e) (binE l e))
  else (⟨id, 0, ⟨#[]⟩, ⟨#[]⟩⟩, l, e)
def nextS (l : List UInt8) (e : Int) : Pr × List UInt8 × Int := typS (typL (num (taken 1 l e))) (num (taken 1 l e)) (leftL 1 l e) (leftE 1 l e)
/-- Is it one? -/
def nextK (l : List UInt8) : Bool := decide ((nextS l 0).2.2 = 0) && (nextS l 0).1.ok
theorem Rdr.set4 {w : World} {r : Nat} {l : List UInt8} {err : Int} (h : Rdr w r l err) {g : Nat} {t : TypeId} {cs : Array Value} (hz : Blk w g t cs) (ht : t ≠ 5) (hr : r ≠ g) (u0 u1 u2 u3 : Value) :
    Rdr ((((w.setCell ⟨g, 0, none⟩ u0).setCell ⟨g, 1, none⟩ u1).setCell ⟨g, 2, none⟩ u2).setCell ⟨g, 3, none⟩ u3) r l err :=
  (((h.setOther hz ht hr u0).setOther (hz.set_ 0 u0) ht hr u1).setOther ((hz.set_ 0 u0).set_ 1 u1) ht hr u2).setOther (((hz.set_ 0 u0).set_ 1 u1).set_ 2 u2) ht hr u3
theorem Kept.set4 {S : Nat → Prop} {w w' : World} (h : Kept S w w') {g : Nat} (hg : w.heap.size ≤ g) (u0 u1 u2 u3 : Value) :
    Kept S w ((((w'.setCell ⟨g, 0, none⟩ u0).setCell ⟨g, 1, none⟩ u1).setCell ⟨g, 2, none⟩ u2).setCell ⟨g, 3, none⟩ u3) :=
  (((h.setCell (p := ⟨g, 0, none⟩) (.inl hg) u0).setCell (p := ⟨g, 1, none⟩) (.inl hg) u1).setCell (p := ⟨g, 2, none⟩) (.inl hg) u2).setCell (p := ⟨g, 3, none⟩) (.inl hg) u3
theorem Tabs.keptR {w w' : World} {r : Nat} {x : Value} (h : Tabs w) (hk : Kept (One r) w w') (hx : w.cell? ⟨r, 0, none⟩ = some x) (hn : ∀ n, x ≠ .int .u8 n) : Tabs w' := by
  have n1 : ¬ One r (Tryd.laysValid_ren.g 3) := fun e => by
    have e' : Tryd.laysValid_ren.g 3 = r := e
    have := h.1 0 (by decide)
    rw [e', hx] at this
    exact hn _ (Option.some.inj this)
  have n2 : ¬ One r (Tryd.laysValid_ren.g 4) := fun e => by
    have e' : Tryd.laysValid_ren.g 4 = r := e
    have := (h.2 0 (by decide)).1
    rw [e', show 2 * 0 = 0 from rfl, hx] at this
    exact hn _ (Option.some.inj this)
  exact ⟨fun c hc => (hk.cell (p := ⟨_, c, none⟩) (cell_lt (h.1 c hc)) n1).trans (h.1 c hc),
   fun i hi => ⟨(hk.cell (p := ⟨_, 2 * i, none⟩) (cell_lt (h.2 i hi).1) n2).trans (h.2 i hi).1, (hk.cell (p := ⟨_, 2 * i + 1, none⟩) (cell_lt (h.2 i hi).2) n2).trans (h.2 i hi).2⟩⟩
theorem Tabs.keptRdr {w w' : World} {r : Nat} {l : List UInt8} {e : Int} (h : Tabs w) (hr : Rdr w r l e) (hk : Kept (One r) w w') : Tabs w' := by
  obtain ⟨a, c, hb, _⟩ := hr
  exact h.keptR hk (hb.cell 0) (by intro n h; cases h)
theorem bin_le (l : List UInt8) (e : Int) : (binTaken l e).length ≤ 65535 := by
  have h1 := taken_le (num (taken 2 l e)) (leftL 2 l e) (leftE 2 l e)
  have h2 := num_le 2 l e 2 (by omega)
  unfold binTaken
  omega
theorem ba_size (l : List UInt8) : (⟨l.toArray⟩ : ByteArray).size = l.length := by show l.toArray.size = _; simp
structure Pr.sm (p : Pr) : Prop where
  hid : p.id < 256
  hn : p.n < 4294967296
  ha : p.a.size ≤ 65535
  hb : p.b.size ≤ 65535
theorem typS_sm (t id : Nat) (l : List UInt8) (e : Int) (h : id < 256) : (typS t id l e).1.sm := by
  have z : (⟨#[]⟩ : ByteArray).size ≤ 65535 := by decide
  have hn1 := num_le 1 l e 1 (by omega)
  have hn2 := num_le 2 l e 2 (by omega)
  have hn4 := num_le 4 l e 4 (by omega)
  have hv := rv_lt 4 0 0 l e (by decide)
  have hb1 := bin_le l e
  have hb2 := bin_le (binL l e) (binE l e)
  unfold typS
  repeat' split
  all_goals refine ⟨h, ?_, ?_, ?_⟩
  all_goals dsimp only
  all_goals first | exact z | omega | (rw [ba_size]; omega)
theorem nextS_sm (l : List UInt8) (e : Int) : (nextS l e).1.sm := typS_sm _ _ _ _ (num_le 1 l e 1 (by omega))
/-- p lies in block q, and what is left is left. -/
def NextAt (s : Pr × List UInt8 × Int) (w : World) (r q : Nat) (wx : World) : Prop :=
  Blk wx w.heap.size 55 #[.int .u8 0, .int .u32 0, .string ⟨#[]⟩, .string ⟨#[]⟩] ∧ Blk wx q 55 #[.int .u8 s.1.id, .int .u32 s.1.n, .string s.1.a, .string s.1.b] ∧ Rdr wx r s.2.1 s.2.2 ∧ Kept (One r) w wx
theorem nextAt_of {s : Pr × List UInt8 × Int} {w wx : World} {r q : Nat} {p : Pr} {l : List UInt8} {e : Int} (hs : s = (p, l, e)) (hz : Blk wx w.heap.size 55 #[.int .u8 0, .int .u32 0, .string ⟨#[]⟩, .string ⟨#[]⟩]) {cs : Array Value} (hb : Blk wx q 55 cs) (hc : cs = #[.int .u8 p.id, .int .u32 p.n, .string p.a, .string p.b]) (hr : Rdr wx r l e) (hk : Kept (One r) w wx) : NextAt s w r q wx := by
  subst hs hc
  exact ⟨hz, hb, hr, hk⟩
def NextIs (s : Pr × List UInt8 × Int) (k : Bool) (w : World) (r : Nat) (e : Ending) (w' : World) : Prop :=
  e = .returned (.tuple #[if k then s.1.val else Pr.zero.val, .bool k]) ∧ After w w' r s.2.1 s.2.2

set_option maxHeartbeats 8000000 in
theorem next_any (w : World) (r : Nat) (l : List UInt8) (h : Rdr w r l 0) (hT : Tabs w) :
    Calls Tryd.prog 93 #[.pointer (some ⟨r, 0, none⟩)] w (NextIs (nextS l 0) (nextK l) w r) := by
  have hlt := h.lt
  have hby := rbyte_any (w.alloc (.cells #[.int .u8 0, .int .u32 0, .string ⟨#[]⟩, .string ⟨#[]⟩] 55)) r l 0 (h.keptNo ((Kept.refl No w).alloc _))
  have hb8 := num_le 1 l 0 1 (by omega)
  have hnk : nextK l = (decide ((nextS l 0).2.2 = 0) && (nextS l 0).1.ok) := rfl
  have hsm := nextS_sm l 0
  have hns : nextS l 0 = typS (typL (num (taken 1 l 0))) (num (taken 1 l 0)) (leftL 1 l 0) (leftE 1 l 0) := rfl
  generalize nextK l = NK at *
  generalize nextS l 0 = SS at *
  generalize num (taken 1 l 0) = id at *
  generalize leftL 1 l 0 = l1 at *
  generalize leftE 1 l 0 = e1 at *
  have HTK := Lib.hid (fun wx (hk : Kept (One r) w wx) => hT.keptRdr h hk)
  have HBY := Lib.hid hby
  have HSM := Lib.hid hsm
  clear hsm
  have HNK := Lib.hid hnk
  have hTT := Lib.hid (fun wx => type_any id wx)
  have ht7 := typL_le id
  generalize typL id = t at *
  have HSS0 := Lib.hid hns
  clear hby hnk hns
  have hid : id < 256 := hb8
  clear hb8
  go_enter Tryd.func93, Tryd.ntmps93
  go_upto_block 0 with (first
    | (go_at_call 17; refine HBY.out.mono ?_; rintro e w1 ⟨rfl, ha1⟩)
    | (go_at_call 82; refine (hTT.out _).mono ?_; rintro e w2 ⟨rfl, rfl⟩))
  have hs1 := ha1.kept.size
  have hsa : (w.alloc (.cells #[.int .u8 0, .int .u32 0, .string ⟨#[]⟩, .string ⟨#[]⟩] 55)).heap.size = w.heap.size + 1 := by simp
  have hQ := Blk.new w1 55 #[.int .u8 id, .int .u32 0, .string ⟨#[]⟩, .string ⟨#[]⟩]
  have hZ := ((Blk.new w 55 #[.int .u8 0, .int .u32 0, .string ⟨#[]⟩, .string ⟨#[]⟩]).kept ha1.kept (by intro e; exact absurd (show w.heap.size = r from e) (by omega))).alloc (.cells #[.int .u8 id, .int .u32 0, .string ⟨#[]⟩, .string ⟨#[]⟩] 55)
  have hR1 := ha1.rdr.keptNo ((Kept.refl No w1).alloc (.cells #[.int .u8 id, .int .u32 0, .string ⟨#[]⟩, .string ⟨#[]⟩] 55))
  have hK1 : Kept (One r) w (w1.alloc (.cells #[.int .u8 id, .int .u32 0, .string ⟨#[]⟩, .string ⟨#[]⟩] 55)) := (((Kept.refl (One r) w).alloc _).trans ha1.kept).alloc _
  have HQW := Lib.hid (show w.heap.size ≤ w1.heap.size by omega)
  have HQR := Lib.hid (show ¬ One r w1.heap.size from fun e => by have : w1.heap.size = r := e; omega)
  have HQR2 := Lib.hid (show r ≠ w1.heap.size by omega)
  have HZR := Lib.hid (show ¬ One r w.heap.size from fun e => by have : w.heap.size = r := e; omega)
  have HZQ := Lib.hid (show w.heap.size ≠ w1.heap.size by omega)
  generalize w1.alloc (.cells #[.int .u8 id, .int .u32 0, .string ⟨#[]⟩, .string ⟨#[]⟩] 55) = w2 at *
  generalize w1.heap.size = q at *
  have HQ := Lib.hid hQ
  have HZ := Lib.hid hZ
  have HR1 := Lib.hid hR1
  have HK1 := Lib.hid hK1
  clear hQ hZ hR1 hK1 ha1 HBY hs1 hsa h
  go_cut [] (fun wx => NextAt SS w r q wx)
  case first =>
    rcases (show t = 0 ∨ t = 1 ∨ t = 2 ∨ t = 3 ∨ t = 4 ∨ t = 5 ∨ t = 6 ∨ t = 7 from by omega) with rfl | rfl | rfl | rfl | rfl | rfl | rfl | rfl
    · have hss : SS = (⟨id, 0, ⟨#[]⟩, ⟨#[]⟩⟩, l1, e1) := HSS0.out
      have HSS := Lib.hid hss
      clear hss
      go_wp2_with fail
      go_meet
      exact nextAt_of (p := ⟨id, 0, ⟨#[]⟩, ⟨#[]⟩⟩) HSS.out HZ.out HQ.out rfl HR1.out HK1.out

    · have hss : SS = (⟨id, num (taken 1 l1 e1), ⟨#[]⟩, ⟨#[]⟩⟩, leftL 1 l1 e1, leftE 1 l1 e1) := HSS0.out
      have hq9 : num (taken 1 l1 e1) < 256 ^ 1 := num_le 1 l1 e1 1 (by omega)
      have hcal := rbyte_any w2 r l1 e1 HR1.out
      generalize num (taken 1 l1 e1) = N at *
      have HSS := Lib.hid hss
      clear hss
      have HC := Lib.hid hcal
      clear hcal
      go_wp2_with (go_at_call 17; refine HC.out.mono ?_; rintro e w3 ⟨rfl, ha⟩; have hQ3 := HQ.out.kept ha.kept HQR.out; have hm3 := hQ3.lt; have v3 := hQ3.frozen 1; have z3 := hQ3.cell 1; simp at z3)
      have hB := (HQ.out.kept ha.kept HQR.out).set_ 1 (.int .u32 N)
      have hR9 := ha.rdr.setOther (i := 1) hQ3 (by decide) HQR2.out (.int .u32 N)
      have hZ9 := (HZ.out.kept ha.kept HZR.out).far (p := ⟨q, 1, none⟩) HZQ.out (.int .u32 N)
      have hK9 := (HK1.out.trans ha.kept).setCell (p := ⟨q, 1, none⟩) (.inl HQW.out) (.int .u32 N)
      go_wp2_with fail
      go_meet
      exact nextAt_of (p := ⟨id, N, ⟨#[]⟩, ⟨#[]⟩⟩) HSS.out hZ9 hB (by simp) hR9 hK9

    · have hss : SS = (⟨id, num (taken 2 l1 e1), ⟨#[]⟩, ⟨#[]⟩⟩, leftL 2 l1 e1, leftE 2 l1 e1) := HSS0.out
      have hq9 : num (taken 2 l1 e1) < 256 ^ 2 := num_le 2 l1 e1 2 (by omega)
      have hcal := rtwo_any w2 r l1 e1 HR1.out
      generalize num (taken 2 l1 e1) = N at *
      have HSS := Lib.hid hss
      clear hss
      have HC := Lib.hid hcal
      clear hcal
      go_wp2_with (go_at_call 115; refine HC.out.mono ?_; rintro e w3 ⟨rfl, ha⟩; have hQ3 := HQ.out.kept ha.kept HQR.out; have hm3 := hQ3.lt; have v3 := hQ3.frozen 1; have z3 := hQ3.cell 1; simp at z3)
      have hB := (HQ.out.kept ha.kept HQR.out).set_ 1 (.int .u32 N)
      have hR9 := ha.rdr.setOther (i := 1) hQ3 (by decide) HQR2.out (.int .u32 N)
      have hZ9 := (HZ.out.kept ha.kept HZR.out).far (p := ⟨q, 1, none⟩) HZQ.out (.int .u32 N)
      have hK9 := (HK1.out.trans ha.kept).setCell (p := ⟨q, 1, none⟩) (.inl HQW.out) (.int .u32 N)
      go_wp2_with fail
      go_meet
      exact nextAt_of (p := ⟨id, N, ⟨#[]⟩, ⟨#[]⟩⟩) HSS.out hZ9 hB (by simp) hR9 hK9

    · have hss : SS = (⟨id, num (taken 4 l1 e1), ⟨#[]⟩, ⟨#[]⟩⟩, leftL 4 l1 e1, leftE 4 l1 e1) := HSS0.out
      have hq9 : num (taken 4 l1 e1) < 256 ^ 4 := num_le 4 l1 e1 4 (by omega)
      have hcal := rfour_any w2 r l1 e1 HR1.out
      generalize num (taken 4 l1 e1) = N at *
      have HSS := Lib.hid hss
      clear hss
      have HC := Lib.hid hcal
      clear hcal
      go_wp2_with (go_at_call 116; refine HC.out.mono ?_; rintro e w3 ⟨rfl, ha⟩; have hQ3 := HQ.out.kept ha.kept HQR.out; have hm3 := hQ3.lt; have v3 := hQ3.frozen 1; have z3 := hQ3.cell 1; simp at z3)
      have hB := (HQ.out.kept ha.kept HQR.out).set_ 1 (.int .u32 N)
      have hR9 := ha.rdr.setOther (i := 1) hQ3 (by decide) HQR2.out (.int .u32 N)
      have hZ9 := (HZ.out.kept ha.kept HZR.out).far (p := ⟨q, 1, none⟩) HZQ.out (.int .u32 N)
      have hK9 := (HK1.out.trans ha.kept).setCell (p := ⟨q, 1, none⟩) (.inl HQW.out) (.int .u32 N)
      go_wp2_with fail
      go_meet
      exact nextAt_of (p := ⟨id, N, ⟨#[]⟩, ⟨#[]⟩⟩) HSS.out hZ9 hB (by simp) hR9 hK9

    · have hss : SS = (⟨id, (rv 4 0 0 l1 e1).1, ⟨#[]⟩, ⟨#[]⟩⟩, (rv 4 0 0 l1 e1).2.1, (rv 4 0 0 l1 e1).2.2) := HSS0.out
      have hcal := rvar_any w2 r l1 e1 HR1.out
      generalize rv 4 0 0 l1 e1 = V at *
      obtain ⟨N, l2, e2⟩ := V
      have HSS := Lib.hid hss
      clear hss
      have HC := Lib.hid hcal
      clear hcal
      go_wp2_with (go_at_call 54; refine HC.out.mono ?_; rintro e w3 ⟨rfl, ha⟩; have hQ3 := HQ.out.kept ha.kept HQR.out; have hm3 := hQ3.lt; have v3 := hQ3.frozen 1; have z3 := hQ3.cell 1; simp at z3)
      have hB := (HQ.out.kept ha.kept HQR.out).set_ 1 (.int .u32 N)
      have hR9 := ha.rdr.setOther (i := 1) hQ3 (by decide) HQR2.out (.int .u32 N)
      have hZ9 := (HZ.out.kept ha.kept HZR.out).far (p := ⟨q, 1, none⟩) HZQ.out (.int .u32 N)
      have hK9 := (HK1.out.trans ha.kept).setCell (p := ⟨q, 1, none⟩) (.inl HQW.out) (.int .u32 N)
      go_wp2_with fail
      go_meet
      exact nextAt_of (p := ⟨id, N, ⟨#[]⟩, ⟨#[]⟩⟩) HSS.out hZ9 hB (by simp) hR9 hK9

    · have hss : SS = (⟨id, 0, ⟨(binTaken l1 e1).toArray⟩, ⟨#[]⟩⟩, binL l1 e1, binE l1 e1) := HSS0.out
      have hcal := rbin_any w2 r l1 e1 HR1.out
      generalize binTaken l1 e1 = T at *
      generalize binL l1 e1 = l2 at *
      generalize binE l1 e1 = e2 at *
      have HSS := Lib.hid hss
      clear hss
      have HC := Lib.hid hcal
      clear hcal
      go_wp2_with (go_at_call 117; refine HC.out.mono ?_; rintro e w3 ⟨rfl, ha⟩; have hQ3 := HQ.out.kept ha.kept HQR.out; have hm3 := hQ3.lt; have v3 := hQ3.frozen 2; have z3 := hQ3.cell 2; simp at z3)
      have hB := (HQ.out.kept ha.kept HQR.out).set_ 2 (.string ⟨T.toArray⟩)
      have hR9 := ha.rdr.setOther (i := 2) hQ3 (by decide) HQR2.out (.string ⟨T.toArray⟩)
      have hZ9 := (HZ.out.kept ha.kept HZR.out).far (p := ⟨q, 2, none⟩) HZQ.out (.string ⟨T.toArray⟩)
      have hK9 := (HK1.out.trans ha.kept).setCell (p := ⟨q, 2, none⟩) (.inl HQW.out) (.string ⟨T.toArray⟩)
      go_wp2_with fail
      go_meet
      exact nextAt_of (p := ⟨id, 0, ⟨T.toArray⟩, ⟨#[]⟩⟩) HSS.out hZ9 hB (by simp) hR9 hK9

    · have hss : SS = (⟨id, 0, ⟨(binTaken l1 e1).toArray⟩, ⟨#[]⟩⟩, binL l1 e1, binE l1 e1) := HSS0.out
      have hcal := rbin_any w2 r l1 e1 HR1.out
      generalize binTaken l1 e1 = T at *
      generalize binL l1 e1 = l2 at *
      generalize binE l1 e1 = e2 at *
      have HSS := Lib.hid hss
      clear hss
      have HC := Lib.hid hcal
      clear hcal
      go_wp2_with (go_at_call 117; refine HC.out.mono ?_; rintro e w3 ⟨rfl, ha⟩; have hQ3 := HQ.out.kept ha.kept HQR.out; have hm3 := hQ3.lt; have v3 := hQ3.frozen 2; have z3 := hQ3.cell 2; simp at z3)
      have hB := (HQ.out.kept ha.kept HQR.out).set_ 2 (.string ⟨T.toArray⟩)
      have hR9 := ha.rdr.setOther (i := 2) hQ3 (by decide) HQR2.out (.string ⟨T.toArray⟩)
      have hZ9 := (HZ.out.kept ha.kept HZR.out).far (p := ⟨q, 2, none⟩) HZQ.out (.string ⟨T.toArray⟩)
      have hK9 := (HK1.out.trans ha.kept).setCell (p := ⟨q, 2, none⟩) (.inl HQW.out) (.string ⟨T.toArray⟩)
      go_wp2_with fail
      go_meet
      exact nextAt_of (p := ⟨id, 0, ⟨T.toArray⟩, ⟨#[]⟩⟩) HSS.out hZ9 hB (by simp) hR9 hK9

    · have hss : SS = (⟨id, 0, ⟨(binTaken l1 e1).toArray⟩, ⟨(binTaken (binL l1 e1) (binE l1 e1)).toArray⟩⟩, binL (binL l1 e1) (binE l1 e1), binE (binL l1 e1) (binE l1 e1)) := HSS0.out
      have hcal := rbin_any w2 r l1 e1 HR1.out
      have hcal2 := fun wx h => rbin_any wx r (binL l1 e1) (binE l1 e1) h
      generalize binTaken l1 e1 = T at *
      generalize binL l1 e1 = l2 at *
      generalize binE l1 e1 = e2 at *
      generalize binTaken l2 e2 = T2 at *
      generalize binL l2 e2 = l3 at *
      generalize binE l2 e2 = e3 at *
      have HSS := Lib.hid hss
      clear hss
      have HC := Lib.hid hcal
      have HC2 := Lib.hid hcal2
      clear hcal hcal2
      go_wp2_with fail
      go_at_call 117
      refine HC.out.mono ?_; rintro e w3 ⟨rfl, ha⟩
      have hQ3 := HQ.out.kept ha.kept HQR.out
      have hm3 := hQ3.lt
      have v2 := hQ3.frozen 2
      have hB := hQ3.set_ 2 (.string ⟨T.toArray⟩)
      have hR9 := ha.rdr.setOther (i := 2) hQ3 (by decide) HQR2.out (.string ⟨T.toArray⟩)
      have hZ9 := (HZ.out.kept ha.kept HZR.out).far (p := ⟨q, 2, none⟩) HZQ.out (.string ⟨T.toArray⟩)
      have hK9 := (HK1.out.trans ha.kept).setCell (p := ⟨q, 2, none⟩) (.inl HQW.out) (.string ⟨T.toArray⟩)
      have z2 := hQ3.cell 2
      simp at z2
      go_wp2_with fail
      go_at_call 117
      refine (HC2.out _ hR9).mono ?_; rintro e w4 ⟨rfl, ha4⟩
      have hQ4 := hB.kept ha4.kept HQR.out
      have hm4 := hQ4.lt
      have v3 := hQ4.frozen 3
      have hB4 := hQ4.set_ 3 (.string ⟨T2.toArray⟩)
      have hR4 := ha4.rdr.setOther (i := 3) hQ4 (by decide) HQR2.out (.string ⟨T2.toArray⟩)
      have hK4 := (hK9.trans ha4.kept).setCell (p := ⟨q, 3, none⟩) (.inl HQW.out) (.string ⟨T2.toArray⟩)
      have z3 := hQ4.cell 3
      simp at z3
      go_wp2_with fail
      go_meet
      exact nextAt_of (p := ⟨id, 0, ⟨T.toArray⟩, ⟨T2.toArray⟩⟩) HSS.out ((hZ9.kept ha4.kept HZR.out).far (p := ⟨q, 3, none⟩) HZQ.out _) hB4 (by simp) hR4 hK4

  case rest =>
  clear HQ HZ HR1 HK1 HSS0 ht7 hTT
  obtain ⟨hZ, hQ, hR, hK⟩ := hcut
  obtain ⟨⟨pi, pn, A, B⟩, l2, e2⟩ := SS
  have hs := HSM.out
  obtain ⟨p1, p2, p3, p4⟩ := hs
  dsimp only at hZ hQ hR hK HNK p1 p2 p3 p4
  have cR := fun wx hT => pright_any pi pn A B wx hT p1 p2 (by omega) (by omega)
  have hzq := HZQ.out
  have hrz : r ≠ w.heap.size := by omega
  have q0 := hQ.cell 0
  have q1 := hQ.cell 1
  have q2 := hQ.cell 2
  have q3 := hQ.cell 3
  have z0 := hZ.cell 0
  have z1 := hZ.cell 1
  have z2 := hZ.cell 2
  have z3 := hZ.cell 3
  simp at q0 q1 q2 q3 z0 z1 z2 z3
  have f0 := hZ.frozen 0
  have f1 := hZ.frozen 1
  have f2 := hZ.frozen 2
  have f3 := hZ.frozen 3
  have hzl := hZ.lt
  have hql := hQ.lt
  have hTc := Lib.hid (HTK.out _ hK)
  by_cases he : e2 = 0
  · subst he
    rcases hok : rightB pi pn A B with _ | _
    · have HN : Hid (NK = false) := Lib.hid (by rw [HNK.out]; simp [Pr.ok, hok])
      rw [hok] at cR
      have HC := Lib.hid cR
      clear cR hok HNK
      go_wp2_with (first
        | (go_at_call 23; refine (err_any _ r l2 0 hR).mono ?_; rintro e w5 ⟨rfl, rfl⟩)
        | (go_at_call 79; refine (HC.out _ hTc.out).mono ?_; rintro e w6 ⟨rfl, hk6⟩; have hZ6 := hZ.kept hk6 (fun f => f); have y0 := hZ6.cell 0; have y1 := hZ6.cell 1; have y2 := hZ6.cell 2; have y3 := hZ6.cell 3; simp at y0 y1 y2 y3; have g0 := hZ6.frozen 0; have g1 := hZ6.frozen 1; have g2 := hZ6.frozen 2; have g3 := hZ6.frozen 3; have hz6 := hZ6.lt))
      refine bodyPost_ret (v := .tuple #[Pr.zero.val, .bool false]) (by simp [results, Tryd.results93, go_sem, y0, y1, y2, y3, hz6, Pr.zero, Pr.val]) rfl ⟨by rw [HN.out]; rfl, ?_, ?_⟩
      · exact (hR.keptNo hk6).set4 hZ6 (by decide) hrz _ _ _ _
      · exact (hK.trans hk6.any).set4 (Nat.le_refl _) _ _ _ _
    · have HN : Hid (NK = true) := Lib.hid (by rw [HNK.out]; simp [Pr.ok, hok])
      rw [hok] at cR
      have HC := Lib.hid cR
      clear cR hok HNK
      go_wp2_with (first
        | (go_at_call 23; refine (err_any _ r l2 0 hR).mono ?_; rintro e w5 ⟨rfl, rfl⟩)
        | (go_at_call 79; refine (HC.out _ hTc.out).mono ?_; rintro e w6 ⟨rfl, hk6⟩; have hZ6 := hZ.kept hk6 (fun f => f); have hQ6 := hQ.kept hk6 (fun f => f); have y0 := hZ6.cell 0; have y1 := hZ6.cell 1; have y2 := hZ6.cell 2; have y3 := hZ6.cell 3; have x0 := hQ6.cell 0; have x1 := hQ6.cell 1; have x2 := hQ6.cell 2; have x3 := hQ6.cell 3; simp at y0 y1 y2 y3 x0 x1 x2 x3; have g0 := hZ6.frozen 0; have g1 := hZ6.frozen 1; have g2 := hZ6.frozen 2; have g3 := hZ6.frozen 3; have hz6 := hZ6.lt; have hq6 := hQ6.lt))
      refine bodyPost_ret (v := .tuple #[(⟨pi, pn, A, B⟩ : Pr).val, .bool true]) (by simp [results, Tryd.results93, go_sem, y0, y1, y2, y3, hz6, Pr.val]) rfl ⟨by rw [HN.out]; rfl, ?_, ?_⟩
      · exact (hR.keptNo hk6).set4 hZ6 (by decide) hrz _ _ _ _
      · exact (hK.trans hk6.any).set4 (Nat.le_refl _) _ _ _ _
  · have HN : Hid (NK = false) := Lib.hid (by rw [HNK.out]; simp [he])
    have hne : (e2 != 0) = true := by simpa using he
    clear cR HNK
    go_wp2_with (go_at_call 23; refine (err_any _ r l2 e2 hR).mono ?_; rintro e w5 ⟨rfl, rfl⟩)
    refine bodyPost_ret (v := .tuple #[Pr.zero.val, .bool false]) (by simp [results, Tryd.results93, go_sem, z0, z1, z2, z3, hzl, Pr.zero, Pr.val]) rfl ⟨by rw [HN.out]; rfl, ?_, ?_⟩
    · exact hR.set4 hZ (by decide) hrz _ _ _ _
    · exact hK.set4 (Nat.le_refl _) _ _ _ _

end Go.Proofs.YtfhcmmmgnkinoaaDoor
