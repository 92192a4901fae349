/-
  Clone, Grow, Concat of numbers in use.
-/
import Derived.Test.YtlgbljohhnhhkaaIdE
namespace Go.Proofs.Ytlgbljohhnhhkaa
open Go.RowKit
set_option linter.unusedVariables false
set_option linter.unusedSimpArgs false
set_option maxRecDepth 100000

set_option maxHeartbeats 1000000 in
theorem iclone_any (a : Option Addr) (c : Nat) (L : List Rw) (w : World) (hr : Row w a (RC L)) (hn : a = none → L.length = 0 ∧ c = 0) (hl : L.length ≤ 100000) :
    Calls Try.prog 24 #[.slice a L.length c] w (OwnR 55 w L) := by
  have q36 : ∀ (w : World) (a : Option Addr) (n c n' c' : Nat), (binOp .eql 26 (.slice a n c) (.slice none n' c')).run Try.prog w = .ok (.bool a.isNone) w := fun w a n c n' c' => Lib.run_eql_slice_nil w _ _ a n c n' c' Try.underlying26
  obtain ⟨i0, hi, hz0, hz1, hz2⟩ := info_parts' info_row
  cases a with
  | none =>
    obtain ⟨h0, rfl⟩ := hn rfl
    obtain rfl : L = [] := List.length_eq_zero_iff.1 h0
    go_enter Try.func24, Try.ntmps24
    go_wp2
    go_ret
    exact ⟨none, 0, rfl, World.ownsRow_nil _ _ _ _, Kept.refl _ _⟩
  | some ad =>
    go_enter Try.func24, Try.ntmps24
    go_wp2_with (at_builtin; refine wpList_append_own _ rfl _ _ _ rfl w.heap.size 55 i0 _ 3 24 Try.underlying26 hi hz0 hz1 hz2 rfl (by decide) _ _ _ rfl (own_emptyK w _ _ 3 (Nat.le_refl _)) ad L.length c (RC L) rfl (RC_length L) ?c0 (RC_cell1 _) ?c1 ?c2 ?c3 ?_; rotate_right; intro v1 w1 hown1 hg1 hv1)
    case c0 => exact (hr.keptNo ((Kept.refl No w).alloc _)).at_add ad rfl
    case c1 => unfold maxLen; omega
    case c2 => omega
    case c3 => simp
    go_ret
    exact ownR_of hown1 (by simp) (by simp) (((Kept.refl No w).alloc _).grown hg1 (own_no (own_emptyK w _ 55 3 (Nat.le_refl _))))

/-- Room for as many. -/
def RoomIs (w : World) (e : Ending) (w' : World) : Prop :=
  ∃ v, e = .returned v ∧ w'.ownsRow w.heap.size 55 3 v 0 [] ∧ Kept No w w'
theorem zeros_len3 (n : Nat) : (Builtin.zeroCells (Value.agg #[.int .u16 0, .int .i64 0, .int .i64 0]).cells n).size = n * 3 := by
  simp [Builtin.zeroCells, Value.cells]
set_option maxHeartbeats 4000000 in
theorem igrow_any (n : Nat) (w : World) (hn : n ≤ 1000000) :
    Calls Try.prog 34 #[.slice none 0 0, .int .i64 n] w (RoomIs w) := by
  obtain ⟨i0, hi, hz0, hz1, hz2⟩ := info_parts' info_row
  by_cases h0 : n = 0
  · subst h0
    go_enter Try.func34, Try.ntmps34
    go_wp2
    go_ret
    exact ⟨_, rfl, World.ownsRow_nil _ _ _ _, Kept.refl _ _⟩
  · have hmk := fun ty => Lib.run_append_grow_zeros (P := Try.prog) w 26 3 ty 55 i0 _ .i64 .i64 Try.underlying26 Try.underlying3 hi hz0 none 0 0 []
      (by simp [Builtin.firstCells, hz1]) n (by omega) (by rw [hz1]; decide) (by omega) (by omega) (by rw [hz2]; omega) (by rw [hz2]; exact growslice_fits (by omega) (by omega))
    have hG := grownCap_ge w (0 + n) 0 55
    have hG2 := grownCap_le_maxLen w (0 + n) 0 55 (by unfold maxLen; omega)
    generalize grownCap w (0 + n) 0 55 = G at *
    have hown2 : (w.drew.alloc (.cells (([] : List Value).toArray ++ Builtin.zeroCells (Value.agg #[.int .u16 0, .int .i64 0, .int .i64 0]).cells n ++ Builtin.zeroCells (Value.agg #[.int .u16 0, .int .i64 0, .int .i64 0]).cells (G - (0 + n))) 55)).ownsRow w.heap.size 55 3 (.slice (some ⟨w.heap.size, 0, none⟩) 0 G) 0 [] := by
      refine ⟨by simp, .inr ⟨w.heap.size, G, _, rfl, Nat.le_refl _, Blk.new w.drew _ _, by omega, hG2, ?_, by simp⟩⟩
      rw [Array.size_append, Array.size_append, zeros_len3, zeros_len3]
      simp only [List.size_toArray, List.length_nil]
      omega
    have hkk : Kept No w (w.drew.alloc (.cells (([] : List Value).toArray ++ Builtin.zeroCells (Value.agg #[.int .u16 0, .int .i64 0, .int .i64 0]).cells n ++ Builtin.zeroCells (Value.agg #[.int .u16 0, .int .i64 0, .int .i64 0]).cells (G - (0 + n))) 55)) := (Kept.refl No w).drew.alloc _
    generalize w.drew.alloc (.cells (([] : List Value).toArray ++ Builtin.zeroCells (Value.agg #[.int .u16 0, .int .i64 0, .int .i64 0]).cells n ++ Builtin.zeroCells (Value.agg #[.int .u16 0, .int .i64 0, .int .i64 0]).cells (G - (0 + n))) 55) = w2 at *
    unfold maxLen at hG2
    have HM := Lib.hid hmk
    have HO := Lib.hid hown2
    clear hmk hown2
    have h4 : (0 : Int) < (n : Int) := by omega
    have h5 : ¬ (n : Int) < 0 := by omega
    go_enter Try.func34, Try.ntmps34
    go_wp2_with (at_builtin; refine Lib.wpList_append_run _ rfl _ _ _ _ rfl _ _ rfl rfl _ _ (HM.out _) ?_)
    go_ret
    exact ⟨_, rfl, HO.out, hkk⟩

/-- 'append(v, x...)', v the call's own, the rows of x there, nil let in. -/
theorem wpList_append_rows {P : Program} (w : World) {ops : Array Oper} {rest : List Oper} {o : Oper} {a : Act} {Q : Exit → Act → World → Prop} (hgd : o.guard = none) (s x : Operand) (t : TypeId)
    (ho : o.op = .call { callee := .builtin .append, args := #[s, x], argTypes := #[t, t] })
    (base : Nat) (e : TypeId) (i : TypeInfo) (z : Value) (bytes : Nat) (ht : P.underlying t = some (.slice e)) (hi : P.info? e = some i) (hz : i.zero = some z)
    (hsize : i.size = 3) (hby : i.bytes = bytes) (hzs : z.cells.size = 3)
    (v : Value) (n : Nat) (xs : List Value) (hs : a.eval s = v) (hown : w.ownsRow base e 3 v n xs)
    (ao : Option Addr) (m c : Nat) (news : List Value) (hx : a.eval x = .slice ao m c) (hl : news.length = m * 3) (hr : Row w ao news) (hn : ao = none → m = 0 ∧ c = 0) (h1 : ∀ u ∈ news, u.oneCell' = true)
    (h63 : n + m ≤ maxLen) (hbytes : (n + m) * bytes ≤ 140737488355328) (hbase : base ≤ w.heap.size)
    (h : ∀ v' w', w'.ownsRow base e 3 v' (n + m) (xs ++ news) → w.grownBy w' v.ownBlock → wpList P ops Q rest (a.put o.dst v') w') : wpList P ops Q (o :: rest) a w := by
  cases ao with
  | some ad => exact wpList_append_own w hgd s x t ho base e i z 3 bytes ht hi hz hsize hby hzs (by decide) v n xs hs hown ad m c news hx hl (hr.at_add ad rfl) h1 h63 hbytes hbase (fun v' w' q1 q2 _ => h v' w' q1 q2)
  | none =>
    obtain ⟨rfl, rfl⟩ := hn rfl
    have hnews : news = [] := List.length_eq_zero_iff.1 (by omega)
    subst hnews
    exact wpList_append_own_none hgd s x t ho base e i 3 ht hi v n xs hs hown hx (h v w (by simpa using hown) (World.grownBy.refl w _))

structure Pt where
  a : Option Addr
  c : Nat
  L : List Rw
def Pt.val (p : Pt) : Value := .slice p.a p.L.length p.c
structure Pt.At (w : World) (p : Pt) : Prop where
  row : Row w p.a (RC p.L)
  nil : p.a = none → p.L.length = 0 ∧ p.c = 0
def sumP (Ps : List Pt) : Nat := (Ps.map fun p => p.L.length).sum
def catP (Ps : List Pt) : List Rw := Ps.flatMap Pt.L
theorem catP_len (Ps : List Pt) : (catP Ps).length = sumP Ps := by simp [catP, sumP]
theorem sumP_take {Ps : List Pt} {j : Nat} (h : j < Ps.length) : sumP (Ps.take (j + 1)) = sumP (Ps.take j) + (Ps[j]).L.length := by
  unfold sumP
  rw [List.take_succ_eq_append_getElem h, List.map_append, List.sum_append, List.map_cons, List.map_nil, List.sum_cons, List.sum_nil, Nat.add_zero]
theorem catP_take {Ps : List Pt} {j : Nat} (h : j < Ps.length) : catP (Ps.take (j + 1)) = catP (Ps.take j) ++ (Ps[j]).L := by
  unfold catP
  rw [List.take_succ_eq_append_getElem h, List.flatMap_append, List.flatMap_cons, List.flatMap_nil, List.append_nil]
theorem sumP_take_le (Ps : List Pt) (j : Nat) : sumP (Ps.take j) ≤ sumP Ps := by
  unfold sumP
  conv => rhs; rw [← List.take_append_drop j Ps, List.map_append, List.sum_append]
  omega
set_option maxHeartbeats 4000000 in
theorem iconcat_any (a0 : Option Addr) (c0 : Nat) (Ps : List Pt) (w : World) (hr0 : Row w a0 (Ps.map Pt.val)) (hat : ∀ p ∈ Ps, p.At w) (hl : sumP Ps ≤ 100000) (hn : Ps.length ≤ 100) :
    Calls Try.prog 25 #[.slice a0 Ps.length c0] w (OwnR 55 w (catP Ps)) := by
  obtain ⟨i0, hi, hz0, hz1, hz2⟩ := info_parts' info_row
  have HAT := Lib.hid hat
  clear hat
  go_enter Try.func25, Try.ntmps25
  go_wp2
  go_loopw [3, 11] (fun s i wr => ∃ j m : Nat, i = .int .i64 j ∧ s = .int .i64 m ∧ j ≤ Ps.length ∧ m ≤ 100000 ∧ Hid (m = sumP (Ps.take j)) ∧ w = wr) (fun _ i _ => Ps.length - (intOf i).toNat)
  case atStart => exact ⟨0, 0, rfl, rfl, by omega, by omega, Lib.hid (by simp [sumP]), rfl⟩
  case round =>
    obtain ⟨j, m, rfl, rfl, hj, hm, HM, rfl⟩ := hrel
    by_cases hlt : j < Ps.length
    · obtain ⟨b, off, rfl, hb, q0⟩ := hr0.at_ (k := j) (by simpa using hlt)
      rw [List.getElem_map] at q0
      have HS := Lib.hid (sumP_take hlt)
      have hle := sumP_take_le Ps (j + 1)
      have HLE := Lib.hid hle
      generalize Ps[j] = p at *
      obtain ⟨pa, pc, pL⟩ := p
      have q1 : w.cell? ⟨b, off + j, none⟩ = some (.slice pa pL.length pc) := q0
      have hm2 : m + pL.length ≤ 100000 := by have h1 := HS.out; have h2 := HM.out; simp only at h1; omega
      have HN : Hid (m + pL.length = sumP (Ps.take (j + 1))) := Lib.hid (by rw [HS.out, ← HM.out])
      have h0 : ¬ ((m : Int) + (pL.length : Int)) < 0 := by omega
      clear q0 HS hle HLE HM
      go_wp2
      go_roundw
      case rel => exact ⟨j + 1, m + pL.length, by go_num, by go_num, by omega, hm2, HN, trivial⟩
      case measure => simp [intOf]; omega
    · have HM2 : Hid (m = sumP Ps) := Lib.hid (by have := HM.out; rwa [List.take_of_length_le (by omega)] at this)
      clear HM
      go_wp2_with (go_at_call 34; refine (igrow_any m _ (by omega)).mono ?_; rintro e w2 ⟨v2, rfl, hown2, hk2⟩)
      go_loopw [6, 27] (fun s i wx => ∃ (k : Nat) (R : List Rw), i = .int .i64 k ∧ k ≤ Ps.length ∧ R.length ≤ 100000 ∧ Hid (R = catP (Ps.take k)) ∧ wx.ownsRow w.heap.size 55 3 s R.length (RC R) ∧ Kept No w wx) (fun _ i _ => Ps.length - (intOf i).toNat)
      case atStart => exact ⟨0, [], rfl, by omega, by simp, Lib.hid rfl, hown2, hk2⟩
      case round =>
        obtain ⟨k, R, rfl, hk, hR, HR, hown, hkx⟩ := hrel
        have hsx := hkx.size
        by_cases hlt2 : k < Ps.length
        · obtain ⟨b, off, rfl, hb, q0⟩ := hr0.at_ (k := k) (by simpa using hlt2)
          rw [List.getElem_map] at q0
          have HC := Lib.hid (catP_take hlt2)
          have hle := sumP_take_le Ps (k + 1)
          have hcl := catP_len (Ps.take (k + 1))
          have HPA := Lib.hid (HAT.out _ (List.getElem_mem hlt2))
          generalize Ps[k] = p at *
          obtain ⟨pa, pc, pL⟩ := p
          have q1 := (hkx.cell (p := ⟨b, off + k, none⟩) hb (fun f => f)).trans (show w.cell? ⟨b, off + k, none⟩ = some (.slice pa pL.length pc) from q0)
          have hbx := Nat.lt_of_lt_of_le hb hsx
          have HN : Hid (R ++ pL = catP (Ps.take (k + 1))) := Lib.hid (by rw [HC.out, ← HR.out])
          have hRl : R.length + pL.length ≤ 100000 := by
            have h1 := congrArg List.length HN.out
            rw [List.length_append] at h1
            omega
          have hrp : Row wr pa (RC pL) := HPA.out.row.keptNo hkx
          have hnp : pa = none → pL.length = 0 ∧ pc = 0 := HPA.out.nil
          have HRP := Lib.hid (And.intro hrp hnp)
          clear q0 HC hle hcl HPA HR hrp hnp
          go_wp2_with (at_builtin; refine wpList_append_rows _ rfl _ _ _ rfl w.heap.size 55 i0 _ 24 Try.underlying26 hi hz0 hz1 hz2 rfl _ _ _ rfl hown pa pL.length pc (RC pL) rfl (RC_length pL) HRP.out.1 HRP.out.2 (RC_cell1 _) (by unfold maxLen; omega) (by omega) hsx ?_; intro v3 w3 hown3 hg3)
          go_roundw
          case rel => exact ⟨k + 1, R ++ pL, by go_num, by omega, by rw [List.length_append]; exact hRl, HN, by rw [List.length_append, RC_append]; exact hown3, hkx.grown hg3 (own_no hown)⟩
          case measure => simp [intOf]; omega
        · have HR2 : Hid (R = catP Ps) := Lib.hid (by have := HR.out; rwa [List.take_of_length_le (by omega)] at this)
          clear HR
          go_wp2
          go_ret
          exact ownR_of hown (by rw [HR2.out]) (by rw [HR2.out]) hkx

end Go.Proofs.Ytlgbljohhnhhkaa
