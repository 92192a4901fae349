/-
  Contracts of slices.Grow of bytes, props.length, Put, Size.
-/
import Derived.Test.YtfhcmmmgnkinoaaDoorPxD
import Derived.Lib.AppendZerosOnto
namespace Go.Proofs.YtfhcmmmgnkinoaaDoor
open Go.RowKit
set_option linter.unusedVariables false
set_option linter.unusedSimpArgs false
set_option maxRecDepth 100000

/-! grow -/
theorem zeros_len (n : Nat) : (Builtin.zeroCells (Value.int .u8 0).cells n).size = n := by
  simp [Builtin.zeroCells, Value.cells]
set_option maxHeartbeats 4000000 in
theorem grow_any (g c : Nat) (l : List UInt8) (n : Nat) (base : Nat) (w : World) (hown : w.ownsRow base 5 1 (.slice (some ⟨g, 0, none⟩) l.length c) l.length (B8 l)) (hl : l.length ≤ 1000000000) (hn : n ≤ 1000000000) (hb : base ≤ w.heap.size) :
    Calls Tryd.prog 44 #[.slice (some ⟨g, 0, none⟩) l.length c, .int .i64 n] w fun e w' =>
      ∃ g' c', e = .returned (.slice (some ⟨g', 0, none⟩) l.length c') ∧ w'.ownsRow base 5 1 (.slice (some ⟨g', 0, none⟩) l.length c') l.length (B8 l) ∧ Kept No w w' := by
  obtain ⟨i0, hi, hz0, hz1, hz2⟩ := info_parts info_u8
  have hown' := hown
  obtain ⟨_, h | ⟨g9, cap, cur, hv, hg, hcur, hnc, hcm, hcs, hct⟩⟩ := hown'
  · exact absurd h.1 (by simp)
  injection hv with e1 e2 e3
  injection e1 with e1
  injection e1 with e1
  subst e1 e3
  have hlc : l.length ≤ c := hnc
  unfold maxLen at hcm
  by_cases hroom : l.length + n ≤ c
  · have h2 : wrap64 ((c : Int) - (l.length : Int)) = (c : Int) - (l.length : Int) := by unfold wrap64; omega
    have h3 : wrap64 ((n : Int) - ((c : Int) - (l.length : Int))) = (n : Int) - ((c : Int) - (l.length : Int)) := by unfold wrap64; omega
    have h4 : ¬ ((n : Int) - ((c : Int) - (l.length : Int)) > 0) := by omega
    clear hct
    go_enter Tryd.func44, Tryd.ntmps44
    go_wp2
    go_ret
    exact ⟨g, c, rfl, hown, Kept.refl _ _⟩
  · obtain ⟨k, hk⟩ : ∃ k, k = l.length + n - c := ⟨_, rfl⟩
    have hmk := fun ty => Lib.run_append_grow_zeros (P := Tryd.prog) w 25 3 ty 5 i0 _ .i64 .i64 Tryd.underlying25 Tryd.underlying3 hi hz0 (some ⟨g, 0, none⟩) c c cur.toList
      (by
        rw [hz1]
        exact run_firstCells_some w.drew 1 c ⟨g, 0, none⟩ c c cur.toList (by rw [Array.length_toList, hcs]) (fun j v hj => by
          rw [Addr.add_lit]
          show w.cell? _ = _
          have hB : Blk w g 5 cur := hcur
          rw [hB.cell]
          simpa using hj)) k (by omega) (by rw [hz1]; decide) (by omega) (by omega) (by rw [hz2]; omega) (by rw [hz2]; exact growslice_fits (by omega) (by omega))
    have e2 : c + k = l.length + n := by omega
    rw [e2] at hmk
    have hG := grownCap_ge w (l.length + n) c 5
    have hG2 := grownCap_le_maxLen w (l.length + n) c 5 (by unfold maxLen; omega)
    generalize grownCap w (l.length + n) c 5 = G at *
    have hown2 : (w.drew.alloc (.cells (cur.toList.toArray ++ Builtin.zeroCells (Value.int .u8 0).cells k ++ Builtin.zeroCells (Value.int .u8 0).cells (G - (l.length + n))) 5)).ownsRow base 5 1 (.slice (some ⟨w.heap.size, 0, none⟩) l.length G) l.length (B8 l) := by
      refine ⟨by simp, .inr ⟨w.heap.size, G, _, rfl, hb, Blk.new w.drew _ _, by omega, hG2, ?_, ?_⟩⟩
      · rw [Array.size_append, Array.size_append, zeros_len, zeros_len]
        simp only [List.size_toArray, Array.length_toList]
        omega
      · rw [Array.toList_append, Array.toList_append, List.append_assoc, List.take_append_of_le_length (by simp; omega)]
        simpa using hct
    have hkk : Kept No w (w.drew.alloc (.cells (cur.toList.toArray ++ Builtin.zeroCells (Value.int .u8 0).cells k ++ Builtin.zeroCells (Value.int .u8 0).cells (G - (l.length + n))) 5)) := (Kept.refl No w).drew.alloc _
    generalize w.drew.alloc (.cells (cur.toList.toArray ++ Builtin.zeroCells (Value.int .u8 0).cells k ++ Builtin.zeroCells (Value.int .u8 0).cells (G - (l.length + n))) 5) = w2 at *
    have h2 : wrap64 ((c : Int) - (l.length : Int)) = (c : Int) - (l.length : Int) := by unfold wrap64; omega
    have h3 : wrap64 ((n : Int) - ((c : Int) - (l.length : Int))) = (n : Int) - ((c : Int) - (l.length : Int)) := by unfold wrap64; omega
    have h4 : ((n : Int) - ((c : Int) - (l.length : Int)) > 0) := by omega
    have h5 : ((k : Nat) : Int) = (n : Int) - ((c : Int) - (l.length : Int)) := by omega
    rw [h5] at hmk
    unfold maxLen at hG2
    have HM := Lib.hid hmk
    have HO := Lib.hid hown2
    clear hmk hown2 hct hcs hcur hown e2 h5 hk
    go_enter Tryd.func44, Tryd.ntmps44
    go_wp2_with (at_builtin; refine Lib.wpList_append_run _ rfl _ _ _ _ rfl _ _ rfl rfl _ _ (HM.out _) ?_)
    go_ret
    exact ⟨w.heap.size, G, rfl, HO.out, hkk⟩

end Go.Proofs.YtfhcmmmgnkinoaaDoor
