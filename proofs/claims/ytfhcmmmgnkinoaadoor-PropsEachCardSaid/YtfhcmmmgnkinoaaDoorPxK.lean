/-
  The document's Next: made by mkpxk.py.
-/
import Derived.Test.YtfhcmmmgnkinoaaDoorPxJ
import Derived.Deep.RegionHeld3
namespace Go.Proofs.YtfhcmmmgnkinoaaDoor
open Go.RowKit
set_option linter.unusedVariables false
set_option linter.unusedSimpArgs false
set_option maxRecDepth 100000

theorem RefR.setQ {w : World} {r : Nat} {B : ByteArray} {l : List UInt8} {err : Int} (h : RefR w r B l err) {q i : Nat} (hr : r ≠ q) (u : Value) : RefR (w.setCell ⟨q, i, none⟩ u) r B l err :=
  h.kept ((Kept.refl (One q) w).setCell (p := ⟨q, i, none⟩) (.inr rfl) u) hr
def RNextAt (s : Pr × List UInt8 × Int) (w : World) (r q : Nat) (B0 : ByteArray) (wx : World) : Prop :=
  Blk wx w.heap.size 58 #[.int .u8 0, .int .u32 0, .string ⟨#[]⟩, .string ⟨#[]⟩] ∧ Blk wx q 58 #[.int .u8 s.1.id, .int .u32 s.1.n, .string s.1.a, .string s.1.b] ∧ RefR wx r B0 s.2.1 s.2.2 ∧ Kept No w wx
theorem rnextAt_of {s : Pr × List UInt8 × Int} {w wx : World} {r q : Nat} {B0 : ByteArray} {p : Pr} {l : List UInt8} {e : Int} (hs : s = (p, l, e)) (hz : Blk wx w.heap.size 58 #[.int .u8 0, .int .u32 0, .string ⟨#[]⟩, .string ⟨#[]⟩]) {cs : Array Value} (hb : Blk wx q 58 cs) (hc : cs = #[.int .u8 p.id, .int .u32 p.n, .string p.a, .string p.b]) (hr : RefR wx r B0 l e) (hk : Kept No w wx) : RNextAt s w r q B0 wx := by
  subst hs hc
  exact ⟨hz, hb, hr, hk⟩
theorem typS_id (t id : Nat) (l : List UInt8) (e : Int) : (typS t id l e).1.id = id := by
  unfold typS
  repeat' split
  all_goals rfl
theorem nextK_typ (l : List UInt8) (h : typL (num (taken 1 l 0)) = 0) : nextK l = false := by
  unfold nextK
  have h1 : (nextS l 0).1.ok = false := by
    unfold Pr.ok rightB
    rw [show (nextS l 0).1.id = num (taken 1 l 0) from typS_id _ _ _ _, h]
    rfl
  rw [h1, Bool.and_false]
/-- What the document's Next answers: the property, and how many bytes it has; or none. -/
def RNextIs (s : Pr × List UInt8 × Int) (k : Bool) (n : Nat) (w : World) (e : Ending) (w' : World) : Prop :=
  e = .returned (.tuple #[if k then s.1.val else Pr.zero.val, .int .i64 (if k then (n - s.2.1.length : Nat) else 0)]) ∧ Kept No w w'
theorem RefR.at_ {w : World} {r : Nat} {B : ByteArray} {l : List UInt8} (h : RefR w r B l 0) : Blk w r 45 #[.string B, .int .i64 (B.size - l.length : Nat), .int .i64 0] := by
  obtain ⟨at_, hb, h1, h2, h3, h4⟩ := h
  have hl := h3 rfl
  have : l.length = B.size - at_ := by rw [hl, List.length_drop, size_list]
  rw [this, show B.size - (B.size - at_) = at_ by omega]
  exact hb

set_option maxHeartbeats 8000000 in
theorem rnext_any (w : World) (B0 : ByteArray) (h : B0.size ≤ 140737000000000) :
    Calls Tryd.prog 61 #[.string B0] w (RNextIs (nextS B0.data.toList 0) (nextK B0.data.toList) B0.size w) := by
  have hrf : RefR ((w.alloc (.cells #[.int .u8 0, .int .u32 0, .string ⟨#[]⟩, .string ⟨#[]⟩] 58)).alloc (.cells #[.string B0, .int .i64 0, .int .i64 0] 45)) (w.heap.size + 1) B0 B0.data.toList 0 :=
    ⟨0, by have := Blk.new (w.alloc (.cells #[.int .u8 0, .int .u32 0, .string ⟨#[]⟩, .string ⟨#[]⟩] 58)) 45 #[.string B0, .int .i64 0, .int .i64 0]; simpa using this, by omega, h, fun _ => by simp, fun h => absurd rfl h⟩
  generalize hl : B0.data.toList = l at *
  clear hl
  have hby := rnum_any _ _ B0 l 0 1 hrf (by omega) (by omega)
  have hb8 := num_le 1 l 0 1 (by omega)
  have hnk : nextK l = (decide ((nextS l 0).2.2 = 0) && (nextS l 0).1.ok) := rfl
  have hsm := nextS_sm l 0
  have ht0 := nextK_typ l
  have hns : nextS l 0 = typS (typL (num (taken 1 l 0))) (num (taken 1 l 0)) (leftL 1 l 0) (leftE 1 l 0) := rfl
  generalize nextK l = NK at *
  generalize nextS l 0 = SS at *
  generalize num (taken 1 l 0) = id at *
  generalize leftL 1 l 0 = l1 at *
  generalize leftE 1 l 0 = e1 at *
  have HBY := Lib.hid hby
  have HSM := Lib.hid hsm
  clear hsm
  have HNK := Lib.hid hnk
  have hTT := Lib.hid (fun wx => rtype_any id wx)
  have ht7 := typL_le id
  generalize typL id = t at *
  have HT0 := Lib.hid ht0
  have HSS0 := Lib.hid hns
  clear hby hnk hns ht0 hrf
  have hid : id < 256 := hb8
  clear hb8
  go_enter Tryd.func61, Tryd.ntmps61
  go_upto_block 0 with (first
    | (go_at_call 96; refine HBY.out.mono ?_; rintro e w1 ⟨rfl, ha1⟩)
    | (go_at_call 86; refine (hTT.out _).mono ?_; rintro e w2 ⟨rfl, rfl⟩))
  have hs1 := ha1.kept.size
  have hsa : ((w.alloc (.cells #[.int .u8 0, .int .u32 0, .string ⟨#[]⟩, .string ⟨#[]⟩] 58)).alloc (.cells #[.string B0, .int .i64 0, .int .i64 0] 45)).heap.size = w.heap.size + 2 := by simp
  have hQ := Blk.new w1 58 #[.int .u8 id, .int .u32 0, .string ⟨#[]⟩, .string ⟨#[]⟩]
  have hZ := (((Blk.new w 58 #[.int .u8 0, .int .u32 0, .string ⟨#[]⟩, .string ⟨#[]⟩]).alloc (.cells #[.string B0, .int .i64 0, .int .i64 0] 45)).kept ha1.kept (by intro e; exact absurd (show w.heap.size = w.heap.size + 1 from e) (by omega))).alloc (.cells #[.int .u8 id, .int .u32 0, .string ⟨#[]⟩, .string ⟨#[]⟩] 58)
  have hR1 := ha1.rdr.kept ((Kept.refl No w1).alloc (.cells #[.int .u8 id, .int .u32 0, .string ⟨#[]⟩, .string ⟨#[]⟩] 58)) (fun f => f)
  have hRW : ∀ i, i < w.heap.size → One (w.heap.size + 1) i → No i := fun i hi e => by have : i = w.heap.size + 1 := e; omega
  have hK1 : Kept No w (w1.alloc (.cells #[.int .u8 id, .int .u32 0, .string ⟨#[]⟩, .string ⟨#[]⟩] 58)) := ((((Kept.refl No w).alloc _).alloc _).then ha1.kept hRW).alloc _
  have HRW := Lib.hid hRW
  have HQW := Lib.hid (show w.heap.size ≤ w1.heap.size by omega)
  have HQR := Lib.hid (show ¬ One (w.heap.size + 1) w1.heap.size from fun e => by have : w1.heap.size = w.heap.size + 1 := e; omega)
  have HQR2 := Lib.hid (show w.heap.size + 1 ≠ w1.heap.size by omega)
  have HZR := Lib.hid (show ¬ One (w.heap.size + 1) w.heap.size from fun e => by have : w.heap.size = w.heap.size + 1 := e; omega)
  have HZQ := Lib.hid (show w.heap.size ≠ w1.heap.size by omega)
  have HRZ := Lib.hid (show w.heap.size + 1 ≠ w.heap.size by omega)
  generalize w1.alloc (.cells #[.int .u8 id, .int .u32 0, .string ⟨#[]⟩, .string ⟨#[]⟩] 58) = w2 at *
  generalize w1.heap.size = q at *
  generalize w.heap.size + 1 = r at *
  have HQ := Lib.hid hQ
  have HZ := Lib.hid hZ
  have HR1 := Lib.hid hR1
  have HK1 := Lib.hid hK1
  clear hQ hZ hR1 hK1 ha1 HBY hs1 hsa hRW
  go_cut [] (fun wx => RNextAt SS w r q B0 wx)
  case first =>
    rcases (show t = 0 ∨ t = 1 ∨ t = 2 ∨ t = 3 ∨ t = 4 ∨ t = 5 ∨ t = 6 ∨ t = 7 from by omega) with rfl | rfl | rfl | rfl | rfl | rfl | rfl | rfl
    · have HN := Lib.hid (HT0.out rfl)
      have y0 := HZ.out.cell 0
      have y1 := HZ.out.cell 1
      have y2 := HZ.out.cell 2
      have y3 := HZ.out.cell 3
      simp at y0 y1 y2 y3
      have g0 := HZ.out.frozen 0
      have g1 := HZ.out.frozen 1
      have g2 := HZ.out.frozen 2
      have g3 := HZ.out.frozen 3
      have hz6 := HZ.out.lt
      go_wp2
      refine bodyPost_ret (v := .tuple #[Pr.zero.val, .int .i64 0]) (by simp [results, Tryd.results61, go_sem, y0, y1, y2, y3, hz6, Pr.zero, Pr.val]) rfl ⟨by rw [HN.out]; rfl, HK1.out.set4 (Nat.le_refl _) _ _ _ _⟩

    · have hss : SS = (⟨id, num (taken 1 l1 e1), ⟨#[]⟩, ⟨#[]⟩⟩, leftL 1 l1 e1, leftE 1 l1 e1) := HSS0.out
      have hq9 : num (taken 1 l1 e1) < 256 ^ 1 := num_le 1 l1 e1 1 (by omega)
      have hcal := rnum_any w2 r B0 l1 e1 1 HR1.out (by omega) (by omega)
      generalize num (taken 1 l1 e1) = N at *
      have HSS := Lib.hid hss
      clear hss
      have HC := Lib.hid hcal
      clear hcal
      go_wp2_with (go_at_call 96; refine HC.out.mono ?_; rintro e w3 ⟨rfl, ha⟩; have hQ3 := HQ.out.kept ha.kept HQR.out; have hm3 := hQ3.lt; have v3 := hQ3.frozen 1; have z3 := hQ3.cell 1; simp at z3)
      have hB := (HQ.out.kept ha.kept HQR.out).set_ 1 (.int .u32 N)
      have hR9 := ha.rdr.setQ (i := 1) HQR2.out (.int .u32 N)
      have hZ9 := (HZ.out.kept ha.kept HZR.out).far (p := ⟨q, 1, none⟩) HZQ.out (.int .u32 N)
      have hK9 := (HK1.out.then ha.kept HRW.out).setCell (p := ⟨q, 1, none⟩) (.inl HQW.out) (.int .u32 N)
      go_wp2_with fail
      go_meet
      exact rnextAt_of (p := ⟨id, N, ⟨#[]⟩, ⟨#[]⟩⟩) HSS.out hZ9 hB (by simp) hR9 hK9

    · have hss : SS = (⟨id, num (taken 2 l1 e1), ⟨#[]⟩, ⟨#[]⟩⟩, leftL 2 l1 e1, leftE 2 l1 e1) := HSS0.out
      have hq9 : num (taken 2 l1 e1) < 256 ^ 2 := num_le 2 l1 e1 2 (by omega)
      have hcal := rnum_any w2 r B0 l1 e1 2 HR1.out (by omega) (by omega)
      generalize num (taken 2 l1 e1) = N at *
      have HSS := Lib.hid hss
      clear hss
      have HC := Lib.hid hcal
      clear hcal
      go_wp2_with (go_at_call 96; refine HC.out.mono ?_; rintro e w3 ⟨rfl, ha⟩; have hQ3 := HQ.out.kept ha.kept HQR.out; have hm3 := hQ3.lt; have v3 := hQ3.frozen 1; have z3 := hQ3.cell 1; simp at z3)
      have hB := (HQ.out.kept ha.kept HQR.out).set_ 1 (.int .u32 N)
      have hR9 := ha.rdr.setQ (i := 1) HQR2.out (.int .u32 N)
      have hZ9 := (HZ.out.kept ha.kept HZR.out).far (p := ⟨q, 1, none⟩) HZQ.out (.int .u32 N)
      have hK9 := (HK1.out.then ha.kept HRW.out).setCell (p := ⟨q, 1, none⟩) (.inl HQW.out) (.int .u32 N)
      go_wp2_with fail
      go_meet
      exact rnextAt_of (p := ⟨id, N, ⟨#[]⟩, ⟨#[]⟩⟩) HSS.out hZ9 hB (by simp) hR9 hK9

    · have hss : SS = (⟨id, num (taken 4 l1 e1), ⟨#[]⟩, ⟨#[]⟩⟩, leftL 4 l1 e1, leftE 4 l1 e1) := HSS0.out
      have hq9 : num (taken 4 l1 e1) < 256 ^ 4 := num_le 4 l1 e1 4 (by omega)
      have hcal := rnum_any w2 r B0 l1 e1 4 HR1.out (by omega) (by omega)
      generalize num (taken 4 l1 e1) = N at *
      have HSS := Lib.hid hss
      clear hss
      have HC := Lib.hid hcal
      clear hcal
      go_wp2_with (go_at_call 96; refine HC.out.mono ?_; rintro e w3 ⟨rfl, ha⟩; have hQ3 := HQ.out.kept ha.kept HQR.out; have hm3 := hQ3.lt; have v3 := hQ3.frozen 1; have z3 := hQ3.cell 1; simp at z3)
      have hB := (HQ.out.kept ha.kept HQR.out).set_ 1 (.int .u32 N)
      have hR9 := ha.rdr.setQ (i := 1) HQR2.out (.int .u32 N)
      have hZ9 := (HZ.out.kept ha.kept HZR.out).far (p := ⟨q, 1, none⟩) HZQ.out (.int .u32 N)
      have hK9 := (HK1.out.then ha.kept HRW.out).setCell (p := ⟨q, 1, none⟩) (.inl HQW.out) (.int .u32 N)
      go_wp2_with fail
      go_meet
      exact rnextAt_of (p := ⟨id, N, ⟨#[]⟩, ⟨#[]⟩⟩) HSS.out hZ9 hB (by simp) hR9 hK9

    · have hss : SS = (⟨id, (rv 4 0 0 l1 e1).1, ⟨#[]⟩, ⟨#[]⟩⟩, (rv 4 0 0 l1 e1).2.1, (rv 4 0 0 l1 e1).2.2) := HSS0.out
      have hcal := refvar_any w2 r B0 l1 e1 HR1.out
      generalize rv 4 0 0 l1 e1 = V at *
      obtain ⟨N, l2, e2⟩ := V
      have HSS := Lib.hid hss
      clear hss
      have HC := Lib.hid hcal
      clear hcal
      go_wp2_with (go_at_call 58; refine HC.out.mono ?_; rintro e w3 ⟨rfl, ha⟩; have hQ3 := HQ.out.kept ha.kept HQR.out; have hm3 := hQ3.lt; have v3 := hQ3.frozen 1; have z3 := hQ3.cell 1; simp at z3)
      have hB := (HQ.out.kept ha.kept HQR.out).set_ 1 (.int .u32 N)
      have hR9 := ha.rdr.setQ (i := 1) HQR2.out (.int .u32 N)
      have hZ9 := (HZ.out.kept ha.kept HZR.out).far (p := ⟨q, 1, none⟩) HZQ.out (.int .u32 N)
      have hK9 := (HK1.out.then ha.kept HRW.out).setCell (p := ⟨q, 1, none⟩) (.inl HQW.out) (.int .u32 N)
      go_wp2_with fail
      go_meet
      exact rnextAt_of (p := ⟨id, N, ⟨#[]⟩, ⟨#[]⟩⟩) HSS.out hZ9 hB (by simp) hR9 hK9

    · have hss : SS = (⟨id, 0, ⟨(binTaken l1 e1).toArray⟩, ⟨#[]⟩⟩, binL l1 e1, binE l1 e1) := HSS0.out
      have hcal := refbin_any w2 r B0 l1 e1 HR1.out
      generalize binTaken l1 e1 = T at *
      generalize binL l1 e1 = l2 at *
      generalize binE l1 e1 = e2 at *
      have HSS := Lib.hid hss
      clear hss
      have HC := Lib.hid hcal
      clear hcal
      go_wp2_with (go_at_call 97; refine HC.out.mono ?_; rintro e w3 ⟨rfl, ha⟩; have hQ3 := HQ.out.kept ha.kept HQR.out; have hm3 := hQ3.lt; have v3 := hQ3.frozen 2; have z3 := hQ3.cell 2; simp at z3)
      have hB := (HQ.out.kept ha.kept HQR.out).set_ 2 (.string ⟨T.toArray⟩)
      have hR9 := ha.rdr.setQ (i := 2) HQR2.out (.string ⟨T.toArray⟩)
      have hZ9 := (HZ.out.kept ha.kept HZR.out).far (p := ⟨q, 2, none⟩) HZQ.out (.string ⟨T.toArray⟩)
      have hK9 := (HK1.out.then ha.kept HRW.out).setCell (p := ⟨q, 2, none⟩) (.inl HQW.out) (.string ⟨T.toArray⟩)
      go_wp2_with fail
      go_meet
      exact rnextAt_of (p := ⟨id, 0, ⟨T.toArray⟩, ⟨#[]⟩⟩) HSS.out hZ9 hB (by simp) hR9 hK9

    · have hss : SS = (⟨id, 0, ⟨(binTaken l1 e1).toArray⟩, ⟨#[]⟩⟩, binL l1 e1, binE l1 e1) := HSS0.out
      have hcal := refbin_any w2 r B0 l1 e1 HR1.out
      generalize binTaken l1 e1 = T at *
      generalize binL l1 e1 = l2 at *
      generalize binE l1 e1 = e2 at *
      have HSS := Lib.hid hss
      clear hss
      have HC := Lib.hid hcal
      clear hcal
      go_wp2_with (go_at_call 97; refine HC.out.mono ?_; rintro e w3 ⟨rfl, ha⟩; have hQ3 := HQ.out.kept ha.kept HQR.out; have hm3 := hQ3.lt; have v3 := hQ3.frozen 2; have z3 := hQ3.cell 2; simp at z3)
      have hB := (HQ.out.kept ha.kept HQR.out).set_ 2 (.string ⟨T.toArray⟩)
      have hR9 := ha.rdr.setQ (i := 2) HQR2.out (.string ⟨T.toArray⟩)
      have hZ9 := (HZ.out.kept ha.kept HZR.out).far (p := ⟨q, 2, none⟩) HZQ.out (.string ⟨T.toArray⟩)
      have hK9 := (HK1.out.then ha.kept HRW.out).setCell (p := ⟨q, 2, none⟩) (.inl HQW.out) (.string ⟨T.toArray⟩)
      go_wp2_with fail
      go_meet
      exact rnextAt_of (p := ⟨id, 0, ⟨T.toArray⟩, ⟨#[]⟩⟩) HSS.out hZ9 hB (by simp) hR9 hK9

    · have hss : SS = (⟨id, 0, ⟨(binTaken l1 e1).toArray⟩, ⟨(binTaken (binL l1 e1) (binE l1 e1)).toArray⟩⟩, binL (binL l1 e1) (binE l1 e1), binE (binL l1 e1) (binE l1 e1)) := HSS0.out
      have hcal := refbin_any w2 r B0 l1 e1 HR1.out
      have hcal2 := fun wx h => refbin_any wx r B0 (binL l1 e1) (binE l1 e1) h
      generalize binTaken l1 e1 = T at *
      generalize binL l1 e1 = l2 at *
      generalize binE l1 e1 = e2 at *
      generalize binTaken l2 e2 = T2 at *
      generalize binL l2 e2 = l3 at *
      generalize binE l2 e2 = e3 at *
      have HSS := Lib.hid hss
      clear hss
      have HC := Lib.hid hcal
      have HC2 := Lib.hid hcal2
      clear hcal hcal2
      go_wp2_with fail
      go_at_call 97
      refine HC.out.mono ?_; rintro e w3 ⟨rfl, ha⟩
      have hQ3 := HQ.out.kept ha.kept HQR.out
      have hm3 := hQ3.lt
      have v2 := hQ3.frozen 2
      have hB := hQ3.set_ 2 (.string ⟨T.toArray⟩)
      have hR9 := ha.rdr.setQ (i := 2) HQR2.out (.string ⟨T.toArray⟩)
      have hZ9 := (HZ.out.kept ha.kept HZR.out).far (p := ⟨q, 2, none⟩) HZQ.out (.string ⟨T.toArray⟩)
      have hK9 := (HK1.out.then ha.kept HRW.out).setCell (p := ⟨q, 2, none⟩) (.inl HQW.out) (.string ⟨T.toArray⟩)
      have z2 := hQ3.cell 2
      simp at z2
      go_wp2_with fail
      go_at_call 97
      refine (HC2.out _ hR9).mono ?_; rintro e w4 ⟨rfl, ha4⟩
      have hQ4 := hB.kept ha4.kept HQR.out
      have hm4 := hQ4.lt
      have v3 := hQ4.frozen 3
      have hB4 := hQ4.set_ 3 (.string ⟨T2.toArray⟩)
      have hR4 := ha4.rdr.setQ (i := 3) HQR2.out (.string ⟨T2.toArray⟩)
      have hK4 := (hK9.then ha4.kept HRW.out).setCell (p := ⟨q, 3, none⟩) (.inl HQW.out) (.string ⟨T2.toArray⟩)
      have z3 := hQ4.cell 3
      simp at z3
      go_wp2_with fail
      go_meet
      exact rnextAt_of (p := ⟨id, 0, ⟨T.toArray⟩, ⟨T2.toArray⟩⟩) HSS.out ((hZ9.kept ha4.kept HZR.out).far (p := ⟨q, 3, none⟩) HZQ.out _) hB4 (by simp) hR4 hK4

  case rest =>
  clear HQ HZ HR1 HK1 HSS0 ht7 hTT HT0
  obtain ⟨hZ, hQ, hR, hK⟩ := hcut
  obtain ⟨⟨pi, pn, A, B⟩, l2, e2⟩ := SS
  have hs := HSM.out
  obtain ⟨p1, p2, p3, p4⟩ := hs
  dsimp only at hZ hQ hR hK HNK p1 p2 p3 p4
  have cR := fun wx => rright_any pi pn A B wx p1 p2 (by omega) (by omega)
  have hzq := HZQ.out
  have hrz := HRZ.out
  have q0 := hQ.cell 0
  have q1 := hQ.cell 1
  have q2 := hQ.cell 2
  have q3 := hQ.cell 3
  have z0 := hZ.cell 0
  have z1 := hZ.cell 1
  have z2 := hZ.cell 2
  have z3 := hZ.cell 3
  simp at q0 q1 q2 q3 z0 z1 z2 z3
  have f0 := hZ.frozen 0
  have f1 := hZ.frozen 1
  have f2 := hZ.frozen 2
  have f3 := hZ.frozen 3
  have hzl := hZ.lt
  have hql := hQ.lt
  obtain ⟨_, r0, r1, r2⟩ := hR.cells
  by_cases he : e2 = 0
  · subst he
    rcases hok : rightB pi pn A B with _ | _
    · have HN : Hid (NK = false) := Lib.hid (by rw [HNK.out]; simp [Pr.ok, hok])
      rw [hok] at cR
      have HC := Lib.hid cR
      clear cR hok HNK
      go_wp2_with (go_at_call 48; refine (HC.out _).mono ?_; rintro e w6 ⟨rfl, hk6⟩; have hZ6 := hZ.kept hk6 (fun f => f); have y0 := hZ6.cell 0; have y1 := hZ6.cell 1; have y2 := hZ6.cell 2; have y3 := hZ6.cell 3; simp at y0 y1 y2 y3; have g0 := hZ6.frozen 0; have g1 := hZ6.frozen 1; have g2 := hZ6.frozen 2; have g3 := hZ6.frozen 3; have hz6 := hZ6.lt)
      refine bodyPost_ret (v := .tuple #[Pr.zero.val, .int .i64 0]) (by simp [results, Tryd.results61, go_sem, y0, y1, y2, y3, hz6, Pr.zero, Pr.val]) rfl ⟨by rw [HN.out]; rfl, (hK.trans hk6).set4 (Nat.le_refl _) _ _ _ _⟩
    · have HN : Hid (NK = true) := Lib.hid (by rw [HNK.out]; simp [Pr.ok, hok])
      rw [hok] at cR
      have HC := Lib.hid cR
      clear cR hok HNK
      go_wp2_with (go_at_call 48; refine (HC.out _).mono ?_; rintro e w6 ⟨rfl, hk6⟩)
      have hZ6 := hZ.kept hk6 (fun f => f)
      have hQ6 := hQ.kept hk6 (fun f => f)
      have hRb := (hR.kept hk6 (fun f => f)).at_
      generalize hat : B0.size - l2.length = at_ at *
      have HAT := Lib.hid hat
      clear hat
      have y0 := hZ6.cell 0
      have y1 := hZ6.cell 1
      have y2 := hZ6.cell 2
      have y3 := hZ6.cell 3
      simp at y0 y1 y2 y3
      have g0 := hZ6.frozen 0
      have g1 := hZ6.frozen 1
      have g2 := hZ6.frozen 2
      have g3 := hZ6.frozen 3
      have hz6 := hZ6.lt
      have hqz : q ≠ w.heap.size := fun e => hzq e.symm
      refine wp_region_held_drew (S := (fun wx => (wx.cell? ⟨q, 0, none⟩ = some (.int .u8 pi) ∧ wx.cell? ⟨q, 1, none⟩ = some (.int .u32 pn) ∧ wx.cell? ⟨q, 2, none⟩ = some (.string A) ∧ wx.cell? ⟨q, 3, none⟩ = some (.string B)) ∧ wx.cell? ⟨r, 1, none⟩ = some (.int .i64 at_))) (by kernel_rfl) ?_ (fun hHeld => ?_)
      · exact ⟨⟨hQ6.drew.cell 0, hQ6.drew.cell 1, hQ6.drew.cell 2, hQ6.drew.cell 3⟩, hRb.drew.cell 1⟩
      refine wpAnyH_take (i := 0) (v := (.agg #[.int .u8 pi, .int .u32 pn, .string A, .string B])) rfl (by kernel_rfl) (by kernel_rfl) (by kernel_rfl) (fun _ _ _ h => h) (Or.inl ⟨by rfl, ?hhk0⟩) (by assumption) ?rrk0
      case hhk0 => (intro wz9 hSw; (try dsimp only at hSw); go_simp; try with_reducible rfl)
      go_simp
      refine wpAnyH_take (i := 1) (v := ?vvk1) rfl (by kernel_rfl) (by kernel_rfl) (by kernel_rfl) (fun _ _ _ h => h) (Or.inl ⟨by rfl, ?hhk1⟩) (by assumption) ?rrk1
      case hhk1 => (intro wz9 hSw; (try dsimp only at hSw); go_simp; try with_reducible rfl)
      go_simp
      refine wpAnyH_take (i := 2) (v := ?vvk2) rfl (by kernel_rfl) (by kernel_rfl) (by kernel_rfl) (fun _ _ _ h => h) (Or.inl ⟨by rfl, ?hhk2⟩) (by assumption) ?rrk2
      case hhk2 => (intro wz9 hSw; (try dsimp only at hSw); go_simp; try with_reducible rfl)
      go_simp
      refine wpAnyH_take (i := 3) (v := ?vvk3) rfl (by kernel_rfl) (by kernel_rfl) (by kernel_rfl) (fun _ _ _ h => h) (Or.inl ⟨by rfl, ?hhk3⟩) (by assumption) ?rrk3
      case hhk3 => (intro wz9 hSw; (try dsimp only at hSw); go_simp; try with_reducible rfl)
      go_simp
      refine wpAnyH_take (i := 4) (v := (.int .i64 at_)) rfl (by kernel_rfl) (by kernel_rfl) (by kernel_rfl) (fun _ _ _ h => h) (Or.inl ⟨by rfl, ?hhk4⟩) (by assumption) ?rrk4
      case hhk4 => (intro wz9 hSw; (try dsimp only at hSw); go_simp; try with_reducible rfl)
      go_simp
      refine wpAnyH_ready (rs := [5]) (by kernel_rfl) (by simp) ?_
      refine AllReadyH.cons rfl (fun K9 hK9 => ?_) AllReadyH.nil
      go_simp
      refine hK9.out _ _ ?_ (fun hHeld => ?_)
      · exact ⟨⟨((((hQ6.drew.far (p := ⟨w.heap.size, 0, none⟩) hqz _).far (p := ⟨w.heap.size, 1, none⟩) hqz _).far (p := ⟨w.heap.size, 2, none⟩) hqz _).far (p := ⟨w.heap.size, 3, none⟩) hqz _).cell 0, ((((hQ6.drew.far (p := ⟨w.heap.size, 0, none⟩) hqz _).far (p := ⟨w.heap.size, 1, none⟩) hqz _).far (p := ⟨w.heap.size, 2, none⟩) hqz _).far (p := ⟨w.heap.size, 3, none⟩) hqz _).cell 1, ((((hQ6.drew.far (p := ⟨w.heap.size, 0, none⟩) hqz _).far (p := ⟨w.heap.size, 1, none⟩) hqz _).far (p := ⟨w.heap.size, 2, none⟩) hqz _).far (p := ⟨w.heap.size, 3, none⟩) hqz _).cell 2, ((((hQ6.drew.far (p := ⟨w.heap.size, 0, none⟩) hqz _).far (p := ⟨w.heap.size, 1, none⟩) hqz _).far (p := ⟨w.heap.size, 2, none⟩) hqz _).far (p := ⟨w.heap.size, 3, none⟩) hqz _).cell 3⟩, ((((hRb.drew.far (p := ⟨w.heap.size, 0, none⟩) hrz _).far (p := ⟨w.heap.size, 1, none⟩) hrz _).far (p := ⟨w.heap.size, 2, none⟩) hrz _).far (p := ⟨w.heap.size, 3, none⟩) hrz _).cell 1⟩
      clear hK9 K9
      go_simp
      refine wpAnyH_take (i := 6) (v := ?vvk6) rfl (by kernel_rfl) (by kernel_rfl) (by kernel_rfl) (fun _ _ _ h => h) (Or.inl ⟨by rfl, ?hhk6⟩) (by assumption) ?rrk6
      case hhk6 => (intro wz9 hSw; (try dsimp only at hSw); go_simp; try with_reducible rfl)
      go_simp
      refine wpAnyH_done (by kernel_rfl) ?_ _
      go_wp2
      refine bodyPost_ret (v := .tuple #[(⟨pi, pn, A, B⟩ : Pr).val, .int .i64 at_]) (by simp [results, Tryd.results61, go_sem, y0, y1, y2, y3, hz6, Pr.val]) rfl ⟨by rw [HN.out, ← HAT.out]; rfl, ((hK.trans hk6).drew).set4 (Nat.le_refl _) _ _ _ _⟩
  · have HN : Hid (NK = false) := Lib.hid (by rw [HNK.out]; simp [he])
    have hne : (e2 != 0) = true := by simpa using he
    clear cR HNK
    go_wp2
    refine bodyPost_ret (v := .tuple #[Pr.zero.val, .int .i64 0]) (by simp [results, Tryd.results61, go_sem, z0, z1, z2, z3, hzl, Pr.zero, Pr.val]) rfl ⟨by rw [HN.out]; rfl, hK.set4 (Nat.le_refl _) _ _ _ _⟩

end Go.Proofs.YtfhcmmmgnkinoaaDoor
