/-
  Contracts and plain facts, one behind the other: PkH PkO PkP PkQ PkW PkZ.
-/
import Derived.Test.YtjihgcdhheoniaaDoorYFB
import Derived.Test.YtjihgcdhheoniaaDoorYF3
import Derived.Test.YtjihgcdhheoniaaDoorYF7
import Derived.Test.YtjihgcdhheoniaaDoorYFC
import Derived.Test.YtjihgcdhheoniaaDoorYF2
import Derived.Deep.RegionHeld3
/-
  Small parts of packet: bin, section, numberSize, exists, propsRight.
-/
namespace Go.Proofs.YtjihgcdhheoniaaDoor
open Go.RowKit
set_option linter.unusedVariables false
set_option linter.unusedSimpArgs false
set_option maxRecDepth 100000

theorem pbin_any (s : ByteArray) (w : World) (hs : s.size ≤ 140737488355328) : Calls Tryd.prog 35 #[.string s] w fun e w' => e = .returned (.int .i64 ((2 + s.size : Nat) : Int)) ∧ Kept No w w' := by
  go_enter Tryd.func35, Tryd.ntmps35
  go_wp2
  go_ret
  exact ⟨by first | rfl | (congr 2; done) | (congr 2; push_cast; omega), Kept.refl _ _⟩
def secN (v : Int) (L : List Pr) : Nat := if v = 4 then 0 else sizeR L
theorem section_any (v : Int) (a : Option Addr) (c : Nat) (L : List Pr) (w : World) (hr : Row w a (PC L)) (hl : L.length ≤ 100000) (hw : ∀ p ∈ L, p.wf') (hT : Tabs w) :
    Calls Tryd.prog 34 #[.int .i64 v, .slice a L.length c] w fun e w' => e = .returned (.int .i64 (secN v L)) ∧ Kept No w w' := by
  unfold secN
  by_cases h4 : v = 4
  · rw [if_pos h4]
    have hI : (v == 4) = true := by simp [h4]
    go_enter Tryd.func34, Tryd.ntmps34
    go_wp2
    go_ret
    exact ⟨rfl, Kept.refl _ _⟩
  · rw [if_neg h4]
    have hI : (v == 4) = false := by simpa using h4
    have H := Lib.hid (psize_any a c L w hr hl hw hT)
    clear h4
    go_enter Tryd.func34, Tryd.ntmps34
    go_wp2_with (go_at_call 48; refine H.out.mono ?_; rintro e w1 ⟨rfl, hk⟩)
    go_ret
    exact ⟨rfl, hk⟩
def existsB (v k : Int) : Bool := (decide (v = 4) && (decide (1 ≤ k) && decide (k < 15))) || (decide (v = 5) && (decide (1 ≤ k) && decide (k ≤ 15)))
theorem exists_any (v k : Int) (w : World) : Calls Tryd.prog 18 #[.int .i64 v, .int .i64 k] w fun e w' => e = .returned (.bool (existsB v k)) ∧ w = w' := by
  unfold existsB
  by_cases h4 : v = 4
  · subst h4
    by_cases h1 : (1 : Int) ≤ k
    · have h1d : decide ((1 : Int) ≤ k) = true := decide_eq_true h1
      go_enter Tryd.func18, Tryd.ntmps18
      go_wp2
      go_ret
      simp [h1]
    · have h1d : decide ((1 : Int) ≤ k) = false := decide_eq_false h1
      go_enter Tryd.func18, Tryd.ntmps18
      go_wp2
      go_ret
      simp [h1]
  · have hI : (v == 4) = false := by simpa using h4
    by_cases h5 : v = 5
    · subst h5
      by_cases h1 : (1 : Int) ≤ k
      · have h1d : decide ((1 : Int) ≤ k) = true := decide_eq_true h1
        go_enter Tryd.func18, Tryd.ntmps18
        go_wp2
        go_ret
        simp [h1]
      · have h1d : decide ((1 : Int) ≤ k) = false := decide_eq_false h1
        go_enter Tryd.func18, Tryd.ntmps18
        go_wp2
        go_ret
        simp [h1]
    · have hI5 : (v == 5) = false := by simpa using h5
      go_enter Tryd.func18, Tryd.ntmps18
      go_wp2
      go_ret
      simp [h4, h5]
theorem numsz_any (p : Pk) (s : Sl) (w : World) (N : Int) (hN : N = if p.qos = 0 then 0 else 2) : Calls Tryd.prog 36 #[p.val s] w fun e w' => e = .returned (.int .i64 N) ∧ Kept No w w' := by
  simp only [Pk.val, Pk.cells]
  by_cases h : p.qos = 0
  · rw [if_pos h] at hN
    subst hN
    have hI : ((p.qos : Int) == 0) = true := by rw [h]; rfl
    go_enter Tryd.func36, Tryd.ntmps36
    go_wp2
    go_ret
    exact ⟨rfl, (Kept.refl No w).alloc _⟩
  · rw [if_neg h] at hN
    subst hN
    have hI : ((p.qos : Int) == 0) = false := by simp; omega
    go_enter Tryd.func36, Tryd.ntmps36
    go_wp2
    go_ret
    exact ⟨rfl, (Kept.refl No w).alloc _⟩

/-- The lists' properties are such as may be. -/
structure Wf (p : Pk) : Prop where
  w : ∀ x ∈ p.willProps, x.wf'
  p : ∀ x ∈ p.props, x.wf'
def propsB (v : Int) (p : Pk) : Bool := if v = 4 then (decide (p.props.length = 0) && decide (p.willProps.length = 0)) else (checkB p.kind p.props && checkB 16 p.willProps)
set_option maxHeartbeats 4000000 in
theorem propsRight_any (v : Int) (p : Pk) (s : Sl) (w : World) (hp : p.At s w) (hf : p.few) (hw : Wf p) (hT : Tabs w) : Calls Tryd.prog 20 #[.int .i64 v, p.val s] w fun e w' => e = .returned (.bool (propsB v p)) ∧ Kept No w w' := by
  have hkB : Kept No w (w.alloc (.cells (p.cells s) 34)) := (Kept.refl No w).alloc _
  by_cases h4 : v = 4
  · have hI : (v == 4) = true := by simp [h4]
    have hR : propsB v p = (decide (p.props.length = 0) && decide (p.willProps.length = 0)) := by unfold propsB; rw [if_pos h4]
    rw [hR]
    clear hR h4
    simp only [Pk.val, Pk.cells] at hkB ⊢
    by_cases h1 : p.props.length = 0
    · have e1 : ((p.props.length : Int) == 0) = true := by simp; exact List.length_eq_zero_iff.1 h1
      go_enter Tryd.func20, Tryd.ntmps20
      go_wp2
      go_ret
      exact ⟨by have e3 : ((p.willProps.length : Int) == 0) = decide (p.willProps = []) := by (rw [Bool.eq_iff_iff]; simp)
                simp [h1, e3], (Kept.refl No w).alloc _⟩
    · have e1 : ((p.props.length : Int) == 0) = false := by simp; exact fun h => h1 (by rw [h]; rfl)
      go_enter Tryd.func20, Tryd.ntmps20
      go_wp2
      go_ret
      exact ⟨by have e3 : ((p.willProps.length : Int) == 0) = decide (p.willProps = []) := by (rw [Bool.eq_iff_iff]; simp)
                simp [h1, e3], (Kept.refl No w).alloc _⟩
  · have hI : (v == 4) = false := by simpa using h4
    have hR : propsB v p = (checkB p.kind p.props && checkB 16 p.willProps) := by unfold propsB; rw [if_neg h4]
    rw [hR]
    clear hR h4
    have C1 := Lib.hid (fun wx (hk : Kept No w wx) => check_any p.kind s.pa s.pc p.props wx (hp.hp.keptNo hk) hf.hp hw.p (hT.kept hk))
    have C2 := Lib.hid (fun wx (hk : Kept No w wx) => check_any 16 s.wa s.wc p.willProps wx (hp.hw.keptNo hk) hf.hw hw.w (hT.kept hk))
    have hB1 := Blk.new w 34 (p.cells s)
    have CB := Lib.hid (fun wx (hk : Kept No (w.alloc (.cells (p.cells s) 34)) wx) (i : Nat) => (hB1.kept hk (fun f => f)).cell i)
    clear hB1
    generalize hq1 : checkB p.kind p.props = q1 at *
    generalize hq2 : checkB 16 p.willProps = q2 at *
    clear hq1 hq2
    simp only [Pk.val, Pk.cells] at hkB CB ⊢
    cases q1 with
    | false =>
      go_enter Tryd.func20, Tryd.ntmps20
      go_wp2_with fail
      go_at_call 26
      refine (C1.out _ hkB).mono ?_
      rintro e w1 ⟨rfl, hk1⟩
      go_wp2
      go_ret
      exact ⟨rfl, hkB.trans hk1⟩
    | true =>
      go_enter Tryd.func20, Tryd.ntmps20
      go_wp2_with fail
      go_at_call 26
      refine (C1.out _ hkB).mono ?_
      rintro e w1 ⟨rfl, hk1⟩
      have y : w1.cell? ⟨w.heap.size, 13, none⟩ = some (.slice s.wa p.willProps.length s.wc) := CB.out w1 hk1 13
      go_wp2_with fail
      go_at_call 26
      refine (C2.out _ (hkB.trans hk1)).mono ?_
      rintro e w2 ⟨rfl, hk2⟩
      go_wp2
      go_ret
      exact ⟨by simp, (hkB.trans hk1).trans hk2⟩
end Go.Proofs.YtjihgcdhheoniaaDoor

/-
  packet.own, kind by kind: made by mkpko.py.
-/
namespace Go.Proofs.YtjihgcdhheoniaaDoor
open Go.RowKit
set_option linter.unusedVariables false
set_option linter.unusedSimpArgs false
set_option maxRecDepth 100000

section
variable {P : Program} {ops : Array Oper} {Q : Exit → Act → World → Prop} {a : Act} {w : World} {rest : List Oper}
/-- A field of the one box. -/
theorem ld_step {N S T K n B : Nat} {V : Value} {o1 o2 : Oper} (h1 : o1.op = .fieldAddr S (.tmp 1) K ∧ o1.dst = some n ∧ o1.guard = none) (h2 : o2.op = .load T (.tmp n) ∧ o2.dst = some (n + 1) ∧ o2.guard = none)
    (ht : a.tmps[1]? = some (.pointer (some ⟨B, 0, none⟩))) (hs : a.tmps.size = N) (hn : 1 < n) (hN : n + 1 < N)
    (f1 : (Instr.fieldAt S (.pointer (some ⟨B, 0, none⟩)) K).run P w = .ok (.pointer (some ⟨B, K, none⟩)) w) (l1 : (Instr.loadAt T (.pointer (some ⟨B, K, none⟩))).run P w = .ok V w)
    (k : ∀ a', a'.tmps.size = N → a'.tmps[n + 1]? = some V → (∀ i, i ≠ n → i ≠ n + 1 → a'.tmps[i]? = a.tmps[i]?) → a'.defers = a.defers → wpList P ops Q rest a' w) : wpList P ops Q (o1 :: o2 :: rest) a w := by
  refine wpList_do (w' := w) h1.2.2 (v := .pointer (some ⟨B, K, none⟩)) ?_ ?_
  · simp only [execOp, h1.1, eval_of ht]
    exact run_value f1
  rw [h1.2.1]
  refine wpList_do (w' := w) h2.2.2 (v := V) ?_ ?_
  · have e1 : (a.put (some n) (.pointer (some ⟨B, K, none⟩))).eval (.tmp n) = .pointer (some ⟨B, K, none⟩) := eval_of (put_eq (by omega))
    simp only [execOp, h2.1, e1]
    exact run_value l1
  rw [h2.2.1]
  refine k _ ?_ ?_ (fun i hi hj => ?_) rfl
  · rw [put_size, put_size, hs]
  · exact put_eq (by rw [put_size]; omega)
  · rw [put_ne (Ne.symm hj), put_ne (Ne.symm hi)]
end
/-- A packet with nothing but its kind. -/
def zk (k : Int) : Pk := ⟨k, false, false, 0, 0, false, 0, ⟨#[]⟩, false, false, false, 0, false, [], ⟨#[]⟩, ⟨#[]⟩, ⟨#[]⟩, ⟨#[]⟩, false, 0, ⟨#[]⟩, ⟨#[]⟩, [], [], []⟩
set_option maxHeartbeats 4000000 in
theorem own_k2 (p : Pk) (s : Sl) (w : World) (hk : p.kind = 2) :
    Calls Tryd.prog 19 #[p.val s] w fun e w' => e = .returned (.agg (Pk.cells { zk 2 with present := p.present, code := p.code, props := p.props } ⟨none, 0, none, 0, none, 0, s.pa, s.pc⟩)) ∧ Kept No w w' := by
  have hB1 := (Blk.new w 34 (p.cells s)).alloc (.cells zeroPk 34)
  have hB2 := Blk.new (w.alloc (.cells (p.cells s) 34)) 34 zeroPk
  have hkB : Kept No w ((w.alloc (.cells (p.cells s) 34)).alloc (.cells zeroPk 34)) := ((Kept.refl No w).alloc _).alloc _
  simp only [World.size_alloc] at hB2
  go_enter Tryd.func19, Tryd.ntmps19
  refine wp_seq_k (fun K9 hK9 => ?_)
  have HK := Lib.hid hK9
  clear hK9
  unfold Pk.val
  go_wp2
  refine HK.out _ _ ?_
  clear HK
  change Code.wp _ _ _ _ ((w.alloc (.cells (p.cells s) 34)).alloc (.cells zeroPk 34))
  generalize (w.alloc (.cells (p.cells s) 34)).alloc (.cells zeroPk 34) = wB at *
  have c0 : wB.cell? ⟨w.heap.size, 0, none⟩ = some (.int .i64 2) := (hB1.cell 0).trans (by rw [← hk]; rfl)
  have c18 : wB.cell? ⟨w.heap.size, 18, none⟩ = some (.bool p.present) := (hB1.cell 18).trans rfl
  have c19 : wB.cell? ⟨w.heap.size, 19, none⟩ = some (.int .u8 p.code) := (hB1.cell 19).trans rfl
  have c24 : wB.cell? ⟨w.heap.size, 24, none⟩ = some (.slice s.pa p.props.length s.pc) := (hB1.cell 24).trans rfl
  have u := Tryd.underlying34
  go_upto_region 5 with fail
  rename_i K2 hK2
  refine wp_region_lit ?_
  generalize hA0 : ({ tmps := _, defers := [] } : Act) = A0
  have z0 : A0.tmps.size = 90 := by rw [← hA0]; rfl
  have s0 : A0.tmps[1]? = some (.pointer (some ⟨w.heap.size, 0, none⟩)) := by rw [← hA0]; rfl
  have r0 : A0.tmps[2]? = some (.pointer (some ⟨w.heap.size + 1, 0, none⟩)) := by rw [← hA0]; rfl
  have d0 : A0.defers = [] := by rw [← hA0]
  clear hA0
  refine ld_step (n := 11) (K := 0) (T := 3) (N := 90) (B := w.heap.size) (V := .int .i64 2) ⟨rfl, rfl, rfl⟩ ⟨rfl, rfl, rfl⟩ s0 z0 (by omega) (by omega) (pkf0 _ _) (pkl_i64 _ _ _ _ c0) (fun A1 z1 v1 x1 y1 => ?_)
  have s1 := (x1 1 (by omega) (by omega)).trans s0
  have r1 := (x1 2 (by omega) (by omega)).trans r0
  have d1 := y1.trans d0
  refine ld_step (n := 13) (K := 18) (T := 4) (N := 90) (B := w.heap.size) (V := .bool p.present) ⟨rfl, rfl, rfl⟩ ⟨rfl, rfl, rfl⟩ s1 z1 (by omega) (by omega) (pkf18 _ _) (pkl_bool _ _ _ _ c18) (fun A2 z2 v2 x2 y2 => ?_)
  have s2 := (x2 1 (by omega) (by omega)).trans s1
  have r2 := (x2 2 (by omega) (by omega)).trans r1
  have d2 := y2.trans d1
  have v1 := (x2 12 (by omega) (by omega)).trans v1
  refine ld_step (n := 15) (K := 19) (T := 5) (N := 90) (B := w.heap.size) (V := .int .u8 p.code) ⟨rfl, rfl, rfl⟩ ⟨rfl, rfl, rfl⟩ s2 z2 (by omega) (by omega) (pkf19 _ _) (pkl_u8 _ _ _ _ c19) (fun A3 z3 v3 x3 y3 => ?_)
  have s3 := (x3 1 (by omega) (by omega)).trans s2
  have r3 := (x3 2 (by omega) (by omega)).trans r2
  have d3 := y3.trans d2
  have v1 := (x3 12 (by omega) (by omega)).trans v1
  have v2 := (x3 14 (by omega) (by omega)).trans v2
  refine ld_step (n := 17) (K := 24) (T := 31) (N := 90) (B := w.heap.size) (V := .slice s.pa p.props.length s.pc) ⟨rfl, rfl, rfl⟩ ⟨rfl, rfl, rfl⟩ s3 z3 (by omega) (by omega) (pkf24 _ _) (pkl_sl27 _ _ _ _ c24) (fun A4 z4 v4 x4 y4 => ?_)
  have s4 := (x4 1 (by omega) (by omega)).trans s3
  have r4 := (x4 2 (by omega) (by omega)).trans r3
  have d4 := y4.trans d3
  have v1 := (x4 12 (by omega) (by omega)).trans v1
  have v2 := (x4 14 (by omega) (by omega)).trans v2
  have v3 := (x4 16 (by omega) (by omega)).trans v3
  refine wpList_do (w' := wB) rfl (v := .agg (Pk.cells { zk 2 with present := p.present, code := p.code, props := p.props } ⟨none, 0, none, 0, none, 0, s.pa, s.pc⟩)) ?_ ?_
  · simp only [execOp, List.map_toArray, List.map_cons, List.map_nil, eval_of v1, eval_of v2, eval_of v3, eval_of v4]
    refine run_value (run_build wB _ _ _ ?_)
    kernel_rfl
  have b9e : (A4.put (some 19) (.agg (Pk.cells { zk 2 with present := p.present, code := p.code, props := p.props } ⟨none, 0, none, 0, none, 0, s.pa, s.pc⟩))).tmps[19]? = some (.agg (Pk.cells { zk 2 with present := p.present, code := p.code, props := p.props } ⟨none, 0, none, 0, none, 0, s.pa, s.pc⟩)) := put_eq (by rw [z4]; omega)
  have r9e : (A4.put (some 19) (.agg (Pk.cells { zk 2 with present := p.present, code := p.code, props := p.props } ⟨none, 0, none, 0, none, 0, s.pa, s.pc⟩))).tmps[2]? = some (.pointer (some ⟨w.heap.size + 1, 0, none⟩)) := by rw [put_ne (by omega)]; exact r4
  have d9e : (A4.put (some 19) (.agg (Pk.cells { zk 2 with present := p.present, code := p.code, props := p.props } ⟨none, 0, none, 0, none, 0, s.pa, s.pc⟩))).defers = [] := d4
  change wpList _ _ _ _ (A4.put (some 19) (.agg (Pk.cells { zk 2 with present := p.present, code := p.code, props := p.props } ⟨none, 0, none, 0, none, 0, s.pa, s.pc⟩))) wB
  generalize A4.put (some 19) (.agg (Pk.cells { zk 2 with present := p.present, code := p.code, props := p.props } ⟨none, 0, none, 0, none, 0, s.pa, s.pc⟩)) = A9 at *
  obtain ⟨w9, hst, b9, k9⟩ := store_agg (P := Tryd.prog) (S := 34) (c := Pk.cells { zk 2 with present := p.present, code := p.code, props := p.props } ⟨none, 0, none, 0, none, 0, s.pa, s.pc⟩) wB hB2 (by kernel_rfl) rfl (pk_one _ _)
  refine wpList_st rfl (w' := w9) ?_ ?_
  · simp only [execOp, eval_of b9e, eval_of r9e]
    exact run_skip hst
  refine wpList_nil ?_
  have e9 := load_agg (P := Tryd.prog) (k := 25) (S := 34) (Pk.cells { zk 2 with present := p.present, code := p.code, props := p.props } ⟨none, 0, none, 0, none, 0, s.pa, s.pc⟩) rfl (w.heap.size + 1) w9 (by go_simp) (by go_simp) (fun i => b9.cell i)
  refine (show K2 A9 w9 from hK2 _ _ ?_)
  refine wp_ret_any ?_
  refine (show bodyPost Tryd.prog Tryd.f19 (fun e w' => e = Ending.returned (.agg (Pk.cells { zk 2 with present := p.present, code := p.code, props := p.props } ⟨none, 0, none, 0, none, 0, s.pa, s.pc⟩)) ∧ Kept No w w') Exit.ret _ _ from ?_)
  exact bodyPost_ret (v := .agg (Pk.cells { zk 2 with present := p.present, code := p.code, props := p.props } ⟨none, 0, none, 0, none, 0, s.pa, s.pc⟩)) (results_cell Tryd.results19 (by simp [Array.getD_eq_getD_getElem?, r9e]) e9) d9e ⟨rfl, hkB.then k9 (fun i hi e => by have : i = w.heap.size + 1 := e; omega)⟩

set_option maxHeartbeats 4000000 in
theorem own_k3 (p : Pk) (s : Sl) (w : World) (hk : p.kind = 3) :
    Calls Tryd.prog 19 #[p.val s] w fun e w' => e = .returned (.agg (Pk.cells { zk 3 with dup := p.dup, qos := p.qos, retain := p.retain, topic := p.topic, id := p.id, props := p.props, load := p.load } ⟨none, 0, none, 0, none, 0, s.pa, s.pc⟩)) ∧ Kept No w w' := by
  have hB1 := (Blk.new w 34 (p.cells s)).alloc (.cells zeroPk 34)
  have hB2 := Blk.new (w.alloc (.cells (p.cells s) 34)) 34 zeroPk
  have hkB : Kept No w ((w.alloc (.cells (p.cells s) 34)).alloc (.cells zeroPk 34)) := ((Kept.refl No w).alloc _).alloc _
  simp only [World.size_alloc] at hB2
  go_enter Tryd.func19, Tryd.ntmps19
  refine wp_seq_k (fun K9 hK9 => ?_)
  have HK := Lib.hid hK9
  clear hK9
  unfold Pk.val
  go_wp2
  refine HK.out _ _ ?_
  clear HK
  change Code.wp _ _ _ _ ((w.alloc (.cells (p.cells s) 34)).alloc (.cells zeroPk 34))
  generalize (w.alloc (.cells (p.cells s) 34)).alloc (.cells zeroPk 34) = wB at *
  have c0 : wB.cell? ⟨w.heap.size, 0, none⟩ = some (.int .i64 3) := (hB1.cell 0).trans (by rw [← hk]; rfl)
  have c1 : wB.cell? ⟨w.heap.size, 1, none⟩ = some (.bool p.dup) := (hB1.cell 1).trans rfl
  have c3 : wB.cell? ⟨w.heap.size, 3, none⟩ = some (.int .u8 p.qos) := (hB1.cell 3).trans rfl
  have c2 : wB.cell? ⟨w.heap.size, 2, none⟩ = some (.bool p.retain) := (hB1.cell 2).trans rfl
  have c20 : wB.cell? ⟨w.heap.size, 20, none⟩ = some (.string p.topic) := (hB1.cell 20).trans rfl
  have c4 : wB.cell? ⟨w.heap.size, 4, none⟩ = some (.int .u16 p.id) := (hB1.cell 4).trans rfl
  have c24 : wB.cell? ⟨w.heap.size, 24, none⟩ = some (.slice s.pa p.props.length s.pc) := (hB1.cell 24).trans rfl
  have c21 : wB.cell? ⟨w.heap.size, 21, none⟩ = some (.string p.load) := (hB1.cell 21).trans rfl
  have u := Tryd.underlying34
  go_upto_region 7 with fail
  rename_i K2 hK2
  refine wp_region_lit ?_
  generalize hA0 : ({ tmps := _, defers := [] } : Act) = A0
  have z0 : A0.tmps.size = 90 := by rw [← hA0]; rfl
  have s0 : A0.tmps[1]? = some (.pointer (some ⟨w.heap.size, 0, none⟩)) := by rw [← hA0]; rfl
  have r0 : A0.tmps[2]? = some (.pointer (some ⟨w.heap.size + 1, 0, none⟩)) := by rw [← hA0]; rfl
  have d0 : A0.defers = [] := by rw [← hA0]
  clear hA0
  refine ld_step (n := 22) (K := 0) (T := 3) (N := 90) (B := w.heap.size) (V := .int .i64 3) ⟨rfl, rfl, rfl⟩ ⟨rfl, rfl, rfl⟩ s0 z0 (by omega) (by omega) (pkf0 _ _) (pkl_i64 _ _ _ _ c0) (fun A1 z1 v1 x1 y1 => ?_)
  have s1 := (x1 1 (by omega) (by omega)).trans s0
  have r1 := (x1 2 (by omega) (by omega)).trans r0
  have d1 := y1.trans d0
  refine ld_step (n := 24) (K := 1) (T := 4) (N := 90) (B := w.heap.size) (V := .bool p.dup) ⟨rfl, rfl, rfl⟩ ⟨rfl, rfl, rfl⟩ s1 z1 (by omega) (by omega) (pkf1 _ _) (pkl_bool _ _ _ _ c1) (fun A2 z2 v2 x2 y2 => ?_)
  have s2 := (x2 1 (by omega) (by omega)).trans s1
  have r2 := (x2 2 (by omega) (by omega)).trans r1
  have d2 := y2.trans d1
  have v1 := (x2 23 (by omega) (by omega)).trans v1
  refine ld_step (n := 26) (K := 3) (T := 5) (N := 90) (B := w.heap.size) (V := .int .u8 p.qos) ⟨rfl, rfl, rfl⟩ ⟨rfl, rfl, rfl⟩ s2 z2 (by omega) (by omega) (pkf3 _ _) (pkl_u8 _ _ _ _ c3) (fun A3 z3 v3 x3 y3 => ?_)
  have s3 := (x3 1 (by omega) (by omega)).trans s2
  have r3 := (x3 2 (by omega) (by omega)).trans r2
  have d3 := y3.trans d2
  have v1 := (x3 23 (by omega) (by omega)).trans v1
  have v2 := (x3 25 (by omega) (by omega)).trans v2
  refine ld_step (n := 28) (K := 2) (T := 4) (N := 90) (B := w.heap.size) (V := .bool p.retain) ⟨rfl, rfl, rfl⟩ ⟨rfl, rfl, rfl⟩ s3 z3 (by omega) (by omega) (pkf2 _ _) (pkl_bool _ _ _ _ c2) (fun A4 z4 v4 x4 y4 => ?_)
  have s4 := (x4 1 (by omega) (by omega)).trans s3
  have r4 := (x4 2 (by omega) (by omega)).trans r3
  have d4 := y4.trans d3
  have v1 := (x4 23 (by omega) (by omega)).trans v1
  have v2 := (x4 25 (by omega) (by omega)).trans v2
  have v3 := (x4 27 (by omega) (by omega)).trans v3
  refine ld_step (n := 30) (K := 20) (T := 9) (N := 90) (B := w.heap.size) (V := .string p.topic) ⟨rfl, rfl, rfl⟩ ⟨rfl, rfl, rfl⟩ s4 z4 (by omega) (by omega) (pkf20 _ _) (pkl_str _ _ _ _ c20) (fun A5 z5 v5 x5 y5 => ?_)
  have s5 := (x5 1 (by omega) (by omega)).trans s4
  have r5 := (x5 2 (by omega) (by omega)).trans r4
  have d5 := y5.trans d4
  have v1 := (x5 23 (by omega) (by omega)).trans v1
  have v2 := (x5 25 (by omega) (by omega)).trans v2
  have v3 := (x5 27 (by omega) (by omega)).trans v3
  have v4 := (x5 29 (by omega) (by omega)).trans v4
  refine ld_step (n := 32) (K := 4) (T := 22) (N := 90) (B := w.heap.size) (V := .int .u16 p.id) ⟨rfl, rfl, rfl⟩ ⟨rfl, rfl, rfl⟩ s5 z5 (by omega) (by omega) (pkf4 _ _) (pkl_u16 _ _ _ _ c4) (fun A6 z6 v6 x6 y6 => ?_)
  have s6 := (x6 1 (by omega) (by omega)).trans s5
  have r6 := (x6 2 (by omega) (by omega)).trans r5
  have d6 := y6.trans d5
  have v1 := (x6 23 (by omega) (by omega)).trans v1
  have v2 := (x6 25 (by omega) (by omega)).trans v2
  have v3 := (x6 27 (by omega) (by omega)).trans v3
  have v4 := (x6 29 (by omega) (by omega)).trans v4
  have v5 := (x6 31 (by omega) (by omega)).trans v5
  refine ld_step (n := 34) (K := 24) (T := 31) (N := 90) (B := w.heap.size) (V := .slice s.pa p.props.length s.pc) ⟨rfl, rfl, rfl⟩ ⟨rfl, rfl, rfl⟩ s6 z6 (by omega) (by omega) (pkf24 _ _) (pkl_sl27 _ _ _ _ c24) (fun A7 z7 v7 x7 y7 => ?_)
  have s7 := (x7 1 (by omega) (by omega)).trans s6
  have r7 := (x7 2 (by omega) (by omega)).trans r6
  have d7 := y7.trans d6
  have v1 := (x7 23 (by omega) (by omega)).trans v1
  have v2 := (x7 25 (by omega) (by omega)).trans v2
  have v3 := (x7 27 (by omega) (by omega)).trans v3
  have v4 := (x7 29 (by omega) (by omega)).trans v4
  have v5 := (x7 31 (by omega) (by omega)).trans v5
  have v6 := (x7 33 (by omega) (by omega)).trans v6
  refine ld_step (n := 36) (K := 21) (T := 9) (N := 90) (B := w.heap.size) (V := .string p.load) ⟨rfl, rfl, rfl⟩ ⟨rfl, rfl, rfl⟩ s7 z7 (by omega) (by omega) (pkf21 _ _) (pkl_str _ _ _ _ c21) (fun A8 z8 v8 x8 y8 => ?_)
  have s8 := (x8 1 (by omega) (by omega)).trans s7
  have r8 := (x8 2 (by omega) (by omega)).trans r7
  have d8 := y8.trans d7
  have v1 := (x8 23 (by omega) (by omega)).trans v1
  have v2 := (x8 25 (by omega) (by omega)).trans v2
  have v3 := (x8 27 (by omega) (by omega)).trans v3
  have v4 := (x8 29 (by omega) (by omega)).trans v4
  have v5 := (x8 31 (by omega) (by omega)).trans v5
  have v6 := (x8 33 (by omega) (by omega)).trans v6
  have v7 := (x8 35 (by omega) (by omega)).trans v7
  refine wpList_do (w' := wB) rfl (v := .agg (Pk.cells { zk 3 with dup := p.dup, qos := p.qos, retain := p.retain, topic := p.topic, id := p.id, props := p.props, load := p.load } ⟨none, 0, none, 0, none, 0, s.pa, s.pc⟩)) ?_ ?_
  · simp only [execOp, List.map_toArray, List.map_cons, List.map_nil, eval_of v1, eval_of v2, eval_of v3, eval_of v4, eval_of v5, eval_of v6, eval_of v7, eval_of v8]
    refine run_value (run_build wB _ _ _ ?_)
    kernel_rfl
  have b9e : (A8.put (some 38) (.agg (Pk.cells { zk 3 with dup := p.dup, qos := p.qos, retain := p.retain, topic := p.topic, id := p.id, props := p.props, load := p.load } ⟨none, 0, none, 0, none, 0, s.pa, s.pc⟩))).tmps[38]? = some (.agg (Pk.cells { zk 3 with dup := p.dup, qos := p.qos, retain := p.retain, topic := p.topic, id := p.id, props := p.props, load := p.load } ⟨none, 0, none, 0, none, 0, s.pa, s.pc⟩)) := put_eq (by rw [z8]; omega)
  have r9e : (A8.put (some 38) (.agg (Pk.cells { zk 3 with dup := p.dup, qos := p.qos, retain := p.retain, topic := p.topic, id := p.id, props := p.props, load := p.load } ⟨none, 0, none, 0, none, 0, s.pa, s.pc⟩))).tmps[2]? = some (.pointer (some ⟨w.heap.size + 1, 0, none⟩)) := by rw [put_ne (by omega)]; exact r8
  have d9e : (A8.put (some 38) (.agg (Pk.cells { zk 3 with dup := p.dup, qos := p.qos, retain := p.retain, topic := p.topic, id := p.id, props := p.props, load := p.load } ⟨none, 0, none, 0, none, 0, s.pa, s.pc⟩))).defers = [] := d8
  change wpList _ _ _ _ (A8.put (some 38) (.agg (Pk.cells { zk 3 with dup := p.dup, qos := p.qos, retain := p.retain, topic := p.topic, id := p.id, props := p.props, load := p.load } ⟨none, 0, none, 0, none, 0, s.pa, s.pc⟩))) wB
  generalize A8.put (some 38) (.agg (Pk.cells { zk 3 with dup := p.dup, qos := p.qos, retain := p.retain, topic := p.topic, id := p.id, props := p.props, load := p.load } ⟨none, 0, none, 0, none, 0, s.pa, s.pc⟩)) = A9 at *
  obtain ⟨w9, hst, b9, k9⟩ := store_agg (P := Tryd.prog) (S := 34) (c := Pk.cells { zk 3 with dup := p.dup, qos := p.qos, retain := p.retain, topic := p.topic, id := p.id, props := p.props, load := p.load } ⟨none, 0, none, 0, none, 0, s.pa, s.pc⟩) wB hB2 (by kernel_rfl) rfl (pk_one _ _)
  refine wpList_st rfl (w' := w9) ?_ ?_
  · simp only [execOp, eval_of b9e, eval_of r9e]
    exact run_skip hst
  refine wpList_nil ?_
  have e9 := load_agg (P := Tryd.prog) (k := 25) (S := 34) (Pk.cells { zk 3 with dup := p.dup, qos := p.qos, retain := p.retain, topic := p.topic, id := p.id, props := p.props, load := p.load } ⟨none, 0, none, 0, none, 0, s.pa, s.pc⟩) rfl (w.heap.size + 1) w9 (by go_simp) (by go_simp) (fun i => b9.cell i)
  refine (show K2 A9 w9 from hK2 _ _ ?_)
  refine wp_ret_any ?_
  refine (show bodyPost Tryd.prog Tryd.f19 (fun e w' => e = Ending.returned (.agg (Pk.cells { zk 3 with dup := p.dup, qos := p.qos, retain := p.retain, topic := p.topic, id := p.id, props := p.props, load := p.load } ⟨none, 0, none, 0, none, 0, s.pa, s.pc⟩)) ∧ Kept No w w') Exit.ret _ _ from ?_)
  exact bodyPost_ret (v := .agg (Pk.cells { zk 3 with dup := p.dup, qos := p.qos, retain := p.retain, topic := p.topic, id := p.id, props := p.props, load := p.load } ⟨none, 0, none, 0, none, 0, s.pa, s.pc⟩)) (results_cell Tryd.results19 (by simp [Array.getD_eq_getD_getElem?, r9e]) e9) d9e ⟨rfl, hkB.then k9 (fun i hi e => by have : i = w.heap.size + 1 := e; omega)⟩

set_option maxHeartbeats 4000000 in
theorem own_k4 (p : Pk) (s : Sl) (w : World) (hk : p.kind = 4) :
    Calls Tryd.prog 19 #[p.val s] w fun e w' => e = .returned (.agg (Pk.cells { zk 4 with id := p.id, code := p.code, props := p.props } ⟨none, 0, none, 0, none, 0, s.pa, s.pc⟩)) ∧ Kept No w w' := by
  have hB1 := (Blk.new w 34 (p.cells s)).alloc (.cells zeroPk 34)
  have hB2 := Blk.new (w.alloc (.cells (p.cells s) 34)) 34 zeroPk
  have hkB : Kept No w ((w.alloc (.cells (p.cells s) 34)).alloc (.cells zeroPk 34)) := ((Kept.refl No w).alloc _).alloc _
  simp only [World.size_alloc] at hB2
  go_enter Tryd.func19, Tryd.ntmps19
  refine wp_seq_k (fun K9 hK9 => ?_)
  have HK := Lib.hid hK9
  clear hK9
  unfold Pk.val
  go_wp2
  refine HK.out _ _ ?_
  clear HK
  change Code.wp _ _ _ _ ((w.alloc (.cells (p.cells s) 34)).alloc (.cells zeroPk 34))
  generalize (w.alloc (.cells (p.cells s) 34)).alloc (.cells zeroPk 34) = wB at *
  have c0 : wB.cell? ⟨w.heap.size, 0, none⟩ = some (.int .i64 4) := (hB1.cell 0).trans (by rw [← hk]; rfl)
  have c4 : wB.cell? ⟨w.heap.size, 4, none⟩ = some (.int .u16 p.id) := (hB1.cell 4).trans rfl
  have c19 : wB.cell? ⟨w.heap.size, 19, none⟩ = some (.int .u8 p.code) := (hB1.cell 19).trans rfl
  have c24 : wB.cell? ⟨w.heap.size, 24, none⟩ = some (.slice s.pa p.props.length s.pc) := (hB1.cell 24).trans rfl
  have u := Tryd.underlying34
  go_upto_region 12 with fail
  rename_i K2 hK2
  refine wp_region_lit ?_
  generalize hA0 : ({ tmps := _, defers := [] } : Act) = A0
  have z0 : A0.tmps.size = 90 := by rw [← hA0]; rfl
  have s0 : A0.tmps[1]? = some (.pointer (some ⟨w.heap.size, 0, none⟩)) := by rw [← hA0]; rfl
  have r0 : A0.tmps[2]? = some (.pointer (some ⟨w.heap.size + 1, 0, none⟩)) := by rw [← hA0]; rfl
  have d0 : A0.defers = [] := by rw [← hA0]
  clear hA0
  refine ld_step (n := 44) (K := 0) (T := 3) (N := 90) (B := w.heap.size) (V := .int .i64 4) ⟨rfl, rfl, rfl⟩ ⟨rfl, rfl, rfl⟩ s0 z0 (by omega) (by omega) (pkf0 _ _) (pkl_i64 _ _ _ _ c0) (fun A1 z1 v1 x1 y1 => ?_)
  have s1 := (x1 1 (by omega) (by omega)).trans s0
  have r1 := (x1 2 (by omega) (by omega)).trans r0
  have d1 := y1.trans d0
  refine ld_step (n := 46) (K := 4) (T := 22) (N := 90) (B := w.heap.size) (V := .int .u16 p.id) ⟨rfl, rfl, rfl⟩ ⟨rfl, rfl, rfl⟩ s1 z1 (by omega) (by omega) (pkf4 _ _) (pkl_u16 _ _ _ _ c4) (fun A2 z2 v2 x2 y2 => ?_)
  have s2 := (x2 1 (by omega) (by omega)).trans s1
  have r2 := (x2 2 (by omega) (by omega)).trans r1
  have d2 := y2.trans d1
  have v1 := (x2 45 (by omega) (by omega)).trans v1
  refine ld_step (n := 48) (K := 19) (T := 5) (N := 90) (B := w.heap.size) (V := .int .u8 p.code) ⟨rfl, rfl, rfl⟩ ⟨rfl, rfl, rfl⟩ s2 z2 (by omega) (by omega) (pkf19 _ _) (pkl_u8 _ _ _ _ c19) (fun A3 z3 v3 x3 y3 => ?_)
  have s3 := (x3 1 (by omega) (by omega)).trans s2
  have r3 := (x3 2 (by omega) (by omega)).trans r2
  have d3 := y3.trans d2
  have v1 := (x3 45 (by omega) (by omega)).trans v1
  have v2 := (x3 47 (by omega) (by omega)).trans v2
  refine ld_step (n := 50) (K := 24) (T := 31) (N := 90) (B := w.heap.size) (V := .slice s.pa p.props.length s.pc) ⟨rfl, rfl, rfl⟩ ⟨rfl, rfl, rfl⟩ s3 z3 (by omega) (by omega) (pkf24 _ _) (pkl_sl27 _ _ _ _ c24) (fun A4 z4 v4 x4 y4 => ?_)
  have s4 := (x4 1 (by omega) (by omega)).trans s3
  have r4 := (x4 2 (by omega) (by omega)).trans r3
  have d4 := y4.trans d3
  have v1 := (x4 45 (by omega) (by omega)).trans v1
  have v2 := (x4 47 (by omega) (by omega)).trans v2
  have v3 := (x4 49 (by omega) (by omega)).trans v3
  refine wpList_do (w' := wB) rfl (v := .agg (Pk.cells { zk 4 with id := p.id, code := p.code, props := p.props } ⟨none, 0, none, 0, none, 0, s.pa, s.pc⟩)) ?_ ?_
  · simp only [execOp, List.map_toArray, List.map_cons, List.map_nil, eval_of v1, eval_of v2, eval_of v3, eval_of v4]
    refine run_value (run_build wB _ _ _ ?_)
    kernel_rfl
  have b9e : (A4.put (some 52) (.agg (Pk.cells { zk 4 with id := p.id, code := p.code, props := p.props } ⟨none, 0, none, 0, none, 0, s.pa, s.pc⟩))).tmps[52]? = some (.agg (Pk.cells { zk 4 with id := p.id, code := p.code, props := p.props } ⟨none, 0, none, 0, none, 0, s.pa, s.pc⟩)) := put_eq (by rw [z4]; omega)
  have r9e : (A4.put (some 52) (.agg (Pk.cells { zk 4 with id := p.id, code := p.code, props := p.props } ⟨none, 0, none, 0, none, 0, s.pa, s.pc⟩))).tmps[2]? = some (.pointer (some ⟨w.heap.size + 1, 0, none⟩)) := by rw [put_ne (by omega)]; exact r4
  have d9e : (A4.put (some 52) (.agg (Pk.cells { zk 4 with id := p.id, code := p.code, props := p.props } ⟨none, 0, none, 0, none, 0, s.pa, s.pc⟩))).defers = [] := d4
  change wpList _ _ _ _ (A4.put (some 52) (.agg (Pk.cells { zk 4 with id := p.id, code := p.code, props := p.props } ⟨none, 0, none, 0, none, 0, s.pa, s.pc⟩))) wB
  generalize A4.put (some 52) (.agg (Pk.cells { zk 4 with id := p.id, code := p.code, props := p.props } ⟨none, 0, none, 0, none, 0, s.pa, s.pc⟩)) = A9 at *
  obtain ⟨w9, hst, b9, k9⟩ := store_agg (P := Tryd.prog) (S := 34) (c := Pk.cells { zk 4 with id := p.id, code := p.code, props := p.props } ⟨none, 0, none, 0, none, 0, s.pa, s.pc⟩) wB hB2 (by kernel_rfl) rfl (pk_one _ _)
  refine wpList_st rfl (w' := w9) ?_ ?_
  · simp only [execOp, eval_of b9e, eval_of r9e]
    exact run_skip hst
  refine wpList_nil ?_
  have e9 := load_agg (P := Tryd.prog) (k := 25) (S := 34) (Pk.cells { zk 4 with id := p.id, code := p.code, props := p.props } ⟨none, 0, none, 0, none, 0, s.pa, s.pc⟩) rfl (w.heap.size + 1) w9 (by go_simp) (by go_simp) (fun i => b9.cell i)
  refine (show K2 A9 w9 from hK2 _ _ ?_)
  refine wp_ret_any ?_
  refine (show bodyPost Tryd.prog Tryd.f19 (fun e w' => e = Ending.returned (.agg (Pk.cells { zk 4 with id := p.id, code := p.code, props := p.props } ⟨none, 0, none, 0, none, 0, s.pa, s.pc⟩)) ∧ Kept No w w') Exit.ret _ _ from ?_)
  exact bodyPost_ret (v := .agg (Pk.cells { zk 4 with id := p.id, code := p.code, props := p.props } ⟨none, 0, none, 0, none, 0, s.pa, s.pc⟩)) (results_cell Tryd.results19 (by simp [Array.getD_eq_getD_getElem?, r9e]) e9) d9e ⟨rfl, hkB.then k9 (fun i hi e => by have : i = w.heap.size + 1 := e; omega)⟩

set_option maxHeartbeats 4000000 in
theorem own_k5 (p : Pk) (s : Sl) (w : World) (hk : p.kind = 5) :
    Calls Tryd.prog 19 #[p.val s] w fun e w' => e = .returned (.agg (Pk.cells { zk 5 with id := p.id, code := p.code, props := p.props } ⟨none, 0, none, 0, none, 0, s.pa, s.pc⟩)) ∧ Kept No w w' := by
  have hB1 := (Blk.new w 34 (p.cells s)).alloc (.cells zeroPk 34)
  have hB2 := Blk.new (w.alloc (.cells (p.cells s) 34)) 34 zeroPk
  have hkB : Kept No w ((w.alloc (.cells (p.cells s) 34)).alloc (.cells zeroPk 34)) := ((Kept.refl No w).alloc _).alloc _
  simp only [World.size_alloc] at hB2
  go_enter Tryd.func19, Tryd.ntmps19
  refine wp_seq_k (fun K9 hK9 => ?_)
  have HK := Lib.hid hK9
  clear hK9
  unfold Pk.val
  go_wp2
  refine HK.out _ _ ?_
  clear HK
  change Code.wp _ _ _ _ ((w.alloc (.cells (p.cells s) 34)).alloc (.cells zeroPk 34))
  generalize (w.alloc (.cells (p.cells s) 34)).alloc (.cells zeroPk 34) = wB at *
  have c0 : wB.cell? ⟨w.heap.size, 0, none⟩ = some (.int .i64 5) := (hB1.cell 0).trans (by rw [← hk]; rfl)
  have c4 : wB.cell? ⟨w.heap.size, 4, none⟩ = some (.int .u16 p.id) := (hB1.cell 4).trans rfl
  have c19 : wB.cell? ⟨w.heap.size, 19, none⟩ = some (.int .u8 p.code) := (hB1.cell 19).trans rfl
  have c24 : wB.cell? ⟨w.heap.size, 24, none⟩ = some (.slice s.pa p.props.length s.pc) := (hB1.cell 24).trans rfl
  have u := Tryd.underlying34
  go_upto_region 12 with fail
  rename_i K2 hK2
  refine wp_region_lit ?_
  generalize hA0 : ({ tmps := _, defers := [] } : Act) = A0
  have z0 : A0.tmps.size = 90 := by rw [← hA0]; rfl
  have s0 : A0.tmps[1]? = some (.pointer (some ⟨w.heap.size, 0, none⟩)) := by rw [← hA0]; rfl
  have r0 : A0.tmps[2]? = some (.pointer (some ⟨w.heap.size + 1, 0, none⟩)) := by rw [← hA0]; rfl
  have d0 : A0.defers = [] := by rw [← hA0]
  clear hA0
  refine ld_step (n := 44) (K := 0) (T := 3) (N := 90) (B := w.heap.size) (V := .int .i64 5) ⟨rfl, rfl, rfl⟩ ⟨rfl, rfl, rfl⟩ s0 z0 (by omega) (by omega) (pkf0 _ _) (pkl_i64 _ _ _ _ c0) (fun A1 z1 v1 x1 y1 => ?_)
  have s1 := (x1 1 (by omega) (by omega)).trans s0
  have r1 := (x1 2 (by omega) (by omega)).trans r0
  have d1 := y1.trans d0
  refine ld_step (n := 46) (K := 4) (T := 22) (N := 90) (B := w.heap.size) (V := .int .u16 p.id) ⟨rfl, rfl, rfl⟩ ⟨rfl, rfl, rfl⟩ s1 z1 (by omega) (by omega) (pkf4 _ _) (pkl_u16 _ _ _ _ c4) (fun A2 z2 v2 x2 y2 => ?_)
  have s2 := (x2 1 (by omega) (by omega)).trans s1
  have r2 := (x2 2 (by omega) (by omega)).trans r1
  have d2 := y2.trans d1
  have v1 := (x2 45 (by omega) (by omega)).trans v1
  refine ld_step (n := 48) (K := 19) (T := 5) (N := 90) (B := w.heap.size) (V := .int .u8 p.code) ⟨rfl, rfl, rfl⟩ ⟨rfl, rfl, rfl⟩ s2 z2 (by omega) (by omega) (pkf19 _ _) (pkl_u8 _ _ _ _ c19) (fun A3 z3 v3 x3 y3 => ?_)
  have s3 := (x3 1 (by omega) (by omega)).trans s2
  have r3 := (x3 2 (by omega) (by omega)).trans r2
  have d3 := y3.trans d2
  have v1 := (x3 45 (by omega) (by omega)).trans v1
  have v2 := (x3 47 (by omega) (by omega)).trans v2
  refine ld_step (n := 50) (K := 24) (T := 31) (N := 90) (B := w.heap.size) (V := .slice s.pa p.props.length s.pc) ⟨rfl, rfl, rfl⟩ ⟨rfl, rfl, rfl⟩ s3 z3 (by omega) (by omega) (pkf24 _ _) (pkl_sl27 _ _ _ _ c24) (fun A4 z4 v4 x4 y4 => ?_)
  have s4 := (x4 1 (by omega) (by omega)).trans s3
  have r4 := (x4 2 (by omega) (by omega)).trans r3
  have d4 := y4.trans d3
  have v1 := (x4 45 (by omega) (by omega)).trans v1
  have v2 := (x4 47 (by omega) (by omega)).trans v2
  have v3 := (x4 49 (by omega) (by omega)).trans v3
  refine wpList_do (w' := wB) rfl (v := .agg (Pk.cells { zk 5 with id := p.id, code := p.code, props := p.props } ⟨none, 0, none, 0, none, 0, s.pa, s.pc⟩)) ?_ ?_
  · simp only [execOp, List.map_toArray, List.map_cons, List.map_nil, eval_of v1, eval_of v2, eval_of v3, eval_of v4]
    refine run_value (run_build wB _ _ _ ?_)
    kernel_rfl
  have b9e : (A4.put (some 52) (.agg (Pk.cells { zk 5 with id := p.id, code := p.code, props := p.props } ⟨none, 0, none, 0, none, 0, s.pa, s.pc⟩))).tmps[52]? = some (.agg (Pk.cells { zk 5 with id := p.id, code := p.code, props := p.props } ⟨none, 0, none, 0, none, 0, s.pa, s.pc⟩)) := put_eq (by rw [z4]; omega)
  have r9e : (A4.put (some 52) (.agg (Pk.cells { zk 5 with id := p.id, code := p.code, props := p.props } ⟨none, 0, none, 0, none, 0, s.pa, s.pc⟩))).tmps[2]? = some (.pointer (some ⟨w.heap.size + 1, 0, none⟩)) := by rw [put_ne (by omega)]; exact r4
  have d9e : (A4.put (some 52) (.agg (Pk.cells { zk 5 with id := p.id, code := p.code, props := p.props } ⟨none, 0, none, 0, none, 0, s.pa, s.pc⟩))).defers = [] := d4
  change wpList _ _ _ _ (A4.put (some 52) (.agg (Pk.cells { zk 5 with id := p.id, code := p.code, props := p.props } ⟨none, 0, none, 0, none, 0, s.pa, s.pc⟩))) wB
  generalize A4.put (some 52) (.agg (Pk.cells { zk 5 with id := p.id, code := p.code, props := p.props } ⟨none, 0, none, 0, none, 0, s.pa, s.pc⟩)) = A9 at *
  obtain ⟨w9, hst, b9, k9⟩ := store_agg (P := Tryd.prog) (S := 34) (c := Pk.cells { zk 5 with id := p.id, code := p.code, props := p.props } ⟨none, 0, none, 0, none, 0, s.pa, s.pc⟩) wB hB2 (by kernel_rfl) rfl (pk_one _ _)
  refine wpList_st rfl (w' := w9) ?_ ?_
  · simp only [execOp, eval_of b9e, eval_of r9e]
    exact run_skip hst
  refine wpList_nil ?_
  have e9 := load_agg (P := Tryd.prog) (k := 25) (S := 34) (Pk.cells { zk 5 with id := p.id, code := p.code, props := p.props } ⟨none, 0, none, 0, none, 0, s.pa, s.pc⟩) rfl (w.heap.size + 1) w9 (by go_simp) (by go_simp) (fun i => b9.cell i)
  refine (show K2 A9 w9 from hK2 _ _ ?_)
  refine wp_ret_any ?_
  refine (show bodyPost Tryd.prog Tryd.f19 (fun e w' => e = Ending.returned (.agg (Pk.cells { zk 5 with id := p.id, code := p.code, props := p.props } ⟨none, 0, none, 0, none, 0, s.pa, s.pc⟩)) ∧ Kept No w w') Exit.ret _ _ from ?_)
  exact bodyPost_ret (v := .agg (Pk.cells { zk 5 with id := p.id, code := p.code, props := p.props } ⟨none, 0, none, 0, none, 0, s.pa, s.pc⟩)) (results_cell Tryd.results19 (by simp [Array.getD_eq_getD_getElem?, r9e]) e9) d9e ⟨rfl, hkB.then k9 (fun i hi e => by have : i = w.heap.size + 1 := e; omega)⟩

set_option maxHeartbeats 4000000 in
theorem own_k6 (p : Pk) (s : Sl) (w : World) (hk : p.kind = 6) :
    Calls Tryd.prog 19 #[p.val s] w fun e w' => e = .returned (.agg (Pk.cells { zk 6 with id := p.id, code := p.code, props := p.props } ⟨none, 0, none, 0, none, 0, s.pa, s.pc⟩)) ∧ Kept No w w' := by
  have hB1 := (Blk.new w 34 (p.cells s)).alloc (.cells zeroPk 34)
  have hB2 := Blk.new (w.alloc (.cells (p.cells s) 34)) 34 zeroPk
  have hkB : Kept No w ((w.alloc (.cells (p.cells s) 34)).alloc (.cells zeroPk 34)) := ((Kept.refl No w).alloc _).alloc _
  simp only [World.size_alloc] at hB2
  go_enter Tryd.func19, Tryd.ntmps19
  refine wp_seq_k (fun K9 hK9 => ?_)
  have HK := Lib.hid hK9
  clear hK9
  unfold Pk.val
  go_wp2
  refine HK.out _ _ ?_
  clear HK
  change Code.wp _ _ _ _ ((w.alloc (.cells (p.cells s) 34)).alloc (.cells zeroPk 34))
  generalize (w.alloc (.cells (p.cells s) 34)).alloc (.cells zeroPk 34) = wB at *
  have c0 : wB.cell? ⟨w.heap.size, 0, none⟩ = some (.int .i64 6) := (hB1.cell 0).trans (by rw [← hk]; rfl)
  have c4 : wB.cell? ⟨w.heap.size, 4, none⟩ = some (.int .u16 p.id) := (hB1.cell 4).trans rfl
  have c19 : wB.cell? ⟨w.heap.size, 19, none⟩ = some (.int .u8 p.code) := (hB1.cell 19).trans rfl
  have c24 : wB.cell? ⟨w.heap.size, 24, none⟩ = some (.slice s.pa p.props.length s.pc) := (hB1.cell 24).trans rfl
  have u := Tryd.underlying34
  go_upto_region 12 with fail
  rename_i K2 hK2
  refine wp_region_lit ?_
  generalize hA0 : ({ tmps := _, defers := [] } : Act) = A0
  have z0 : A0.tmps.size = 90 := by rw [← hA0]; rfl
  have s0 : A0.tmps[1]? = some (.pointer (some ⟨w.heap.size, 0, none⟩)) := by rw [← hA0]; rfl
  have r0 : A0.tmps[2]? = some (.pointer (some ⟨w.heap.size + 1, 0, none⟩)) := by rw [← hA0]; rfl
  have d0 : A0.defers = [] := by rw [← hA0]
  clear hA0
  refine ld_step (n := 44) (K := 0) (T := 3) (N := 90) (B := w.heap.size) (V := .int .i64 6) ⟨rfl, rfl, rfl⟩ ⟨rfl, rfl, rfl⟩ s0 z0 (by omega) (by omega) (pkf0 _ _) (pkl_i64 _ _ _ _ c0) (fun A1 z1 v1 x1 y1 => ?_)
  have s1 := (x1 1 (by omega) (by omega)).trans s0
  have r1 := (x1 2 (by omega) (by omega)).trans r0
  have d1 := y1.trans d0
  refine ld_step (n := 46) (K := 4) (T := 22) (N := 90) (B := w.heap.size) (V := .int .u16 p.id) ⟨rfl, rfl, rfl⟩ ⟨rfl, rfl, rfl⟩ s1 z1 (by omega) (by omega) (pkf4 _ _) (pkl_u16 _ _ _ _ c4) (fun A2 z2 v2 x2 y2 => ?_)
  have s2 := (x2 1 (by omega) (by omega)).trans s1
  have r2 := (x2 2 (by omega) (by omega)).trans r1
  have d2 := y2.trans d1
  have v1 := (x2 45 (by omega) (by omega)).trans v1
  refine ld_step (n := 48) (K := 19) (T := 5) (N := 90) (B := w.heap.size) (V := .int .u8 p.code) ⟨rfl, rfl, rfl⟩ ⟨rfl, rfl, rfl⟩ s2 z2 (by omega) (by omega) (pkf19 _ _) (pkl_u8 _ _ _ _ c19) (fun A3 z3 v3 x3 y3 => ?_)
  have s3 := (x3 1 (by omega) (by omega)).trans s2
  have r3 := (x3 2 (by omega) (by omega)).trans r2
  have d3 := y3.trans d2
  have v1 := (x3 45 (by omega) (by omega)).trans v1
  have v2 := (x3 47 (by omega) (by omega)).trans v2
  refine ld_step (n := 50) (K := 24) (T := 31) (N := 90) (B := w.heap.size) (V := .slice s.pa p.props.length s.pc) ⟨rfl, rfl, rfl⟩ ⟨rfl, rfl, rfl⟩ s3 z3 (by omega) (by omega) (pkf24 _ _) (pkl_sl27 _ _ _ _ c24) (fun A4 z4 v4 x4 y4 => ?_)
  have s4 := (x4 1 (by omega) (by omega)).trans s3
  have r4 := (x4 2 (by omega) (by omega)).trans r3
  have d4 := y4.trans d3
  have v1 := (x4 45 (by omega) (by omega)).trans v1
  have v2 := (x4 47 (by omega) (by omega)).trans v2
  have v3 := (x4 49 (by omega) (by omega)).trans v3
  refine wpList_do (w' := wB) rfl (v := .agg (Pk.cells { zk 6 with id := p.id, code := p.code, props := p.props } ⟨none, 0, none, 0, none, 0, s.pa, s.pc⟩)) ?_ ?_
  · simp only [execOp, List.map_toArray, List.map_cons, List.map_nil, eval_of v1, eval_of v2, eval_of v3, eval_of v4]
    refine run_value (run_build wB _ _ _ ?_)
    kernel_rfl
  have b9e : (A4.put (some 52) (.agg (Pk.cells { zk 6 with id := p.id, code := p.code, props := p.props } ⟨none, 0, none, 0, none, 0, s.pa, s.pc⟩))).tmps[52]? = some (.agg (Pk.cells { zk 6 with id := p.id, code := p.code, props := p.props } ⟨none, 0, none, 0, none, 0, s.pa, s.pc⟩)) := put_eq (by rw [z4]; omega)
  have r9e : (A4.put (some 52) (.agg (Pk.cells { zk 6 with id := p.id, code := p.code, props := p.props } ⟨none, 0, none, 0, none, 0, s.pa, s.pc⟩))).tmps[2]? = some (.pointer (some ⟨w.heap.size + 1, 0, none⟩)) := by rw [put_ne (by omega)]; exact r4
  have d9e : (A4.put (some 52) (.agg (Pk.cells { zk 6 with id := p.id, code := p.code, props := p.props } ⟨none, 0, none, 0, none, 0, s.pa, s.pc⟩))).defers = [] := d4
  change wpList _ _ _ _ (A4.put (some 52) (.agg (Pk.cells { zk 6 with id := p.id, code := p.code, props := p.props } ⟨none, 0, none, 0, none, 0, s.pa, s.pc⟩))) wB
  generalize A4.put (some 52) (.agg (Pk.cells { zk 6 with id := p.id, code := p.code, props := p.props } ⟨none, 0, none, 0, none, 0, s.pa, s.pc⟩)) = A9 at *
  obtain ⟨w9, hst, b9, k9⟩ := store_agg (P := Tryd.prog) (S := 34) (c := Pk.cells { zk 6 with id := p.id, code := p.code, props := p.props } ⟨none, 0, none, 0, none, 0, s.pa, s.pc⟩) wB hB2 (by kernel_rfl) rfl (pk_one _ _)
  refine wpList_st rfl (w' := w9) ?_ ?_
  · simp only [execOp, eval_of b9e, eval_of r9e]
    exact run_skip hst
  refine wpList_nil ?_
  have e9 := load_agg (P := Tryd.prog) (k := 25) (S := 34) (Pk.cells { zk 6 with id := p.id, code := p.code, props := p.props } ⟨none, 0, none, 0, none, 0, s.pa, s.pc⟩) rfl (w.heap.size + 1) w9 (by go_simp) (by go_simp) (fun i => b9.cell i)
  refine (show K2 A9 w9 from hK2 _ _ ?_)
  refine wp_ret_any ?_
  refine (show bodyPost Tryd.prog Tryd.f19 (fun e w' => e = Ending.returned (.agg (Pk.cells { zk 6 with id := p.id, code := p.code, props := p.props } ⟨none, 0, none, 0, none, 0, s.pa, s.pc⟩)) ∧ Kept No w w') Exit.ret _ _ from ?_)
  exact bodyPost_ret (v := .agg (Pk.cells { zk 6 with id := p.id, code := p.code, props := p.props } ⟨none, 0, none, 0, none, 0, s.pa, s.pc⟩)) (results_cell Tryd.results19 (by simp [Array.getD_eq_getD_getElem?, r9e]) e9) d9e ⟨rfl, hkB.then k9 (fun i hi e => by have : i = w.heap.size + 1 := e; omega)⟩

set_option maxHeartbeats 4000000 in
theorem own_k7 (p : Pk) (s : Sl) (w : World) (hk : p.kind = 7) :
    Calls Tryd.prog 19 #[p.val s] w fun e w' => e = .returned (.agg (Pk.cells { zk 7 with id := p.id, code := p.code, props := p.props } ⟨none, 0, none, 0, none, 0, s.pa, s.pc⟩)) ∧ Kept No w w' := by
  have hB1 := (Blk.new w 34 (p.cells s)).alloc (.cells zeroPk 34)
  have hB2 := Blk.new (w.alloc (.cells (p.cells s) 34)) 34 zeroPk
  have hkB : Kept No w ((w.alloc (.cells (p.cells s) 34)).alloc (.cells zeroPk 34)) := ((Kept.refl No w).alloc _).alloc _
  simp only [World.size_alloc] at hB2
  go_enter Tryd.func19, Tryd.ntmps19
  refine wp_seq_k (fun K9 hK9 => ?_)
  have HK := Lib.hid hK9
  clear hK9
  unfold Pk.val
  go_wp2
  refine HK.out _ _ ?_
  clear HK
  change Code.wp _ _ _ _ ((w.alloc (.cells (p.cells s) 34)).alloc (.cells zeroPk 34))
  generalize (w.alloc (.cells (p.cells s) 34)).alloc (.cells zeroPk 34) = wB at *
  have c0 : wB.cell? ⟨w.heap.size, 0, none⟩ = some (.int .i64 7) := (hB1.cell 0).trans (by rw [← hk]; rfl)
  have c4 : wB.cell? ⟨w.heap.size, 4, none⟩ = some (.int .u16 p.id) := (hB1.cell 4).trans rfl
  have c19 : wB.cell? ⟨w.heap.size, 19, none⟩ = some (.int .u8 p.code) := (hB1.cell 19).trans rfl
  have c24 : wB.cell? ⟨w.heap.size, 24, none⟩ = some (.slice s.pa p.props.length s.pc) := (hB1.cell 24).trans rfl
  have u := Tryd.underlying34
  go_upto_region 12 with fail
  rename_i K2 hK2
  refine wp_region_lit ?_
  generalize hA0 : ({ tmps := _, defers := [] } : Act) = A0
  have z0 : A0.tmps.size = 90 := by rw [← hA0]; rfl
  have s0 : A0.tmps[1]? = some (.pointer (some ⟨w.heap.size, 0, none⟩)) := by rw [← hA0]; rfl
  have r0 : A0.tmps[2]? = some (.pointer (some ⟨w.heap.size + 1, 0, none⟩)) := by rw [← hA0]; rfl
  have d0 : A0.defers = [] := by rw [← hA0]
  clear hA0
  refine ld_step (n := 44) (K := 0) (T := 3) (N := 90) (B := w.heap.size) (V := .int .i64 7) ⟨rfl, rfl, rfl⟩ ⟨rfl, rfl, rfl⟩ s0 z0 (by omega) (by omega) (pkf0 _ _) (pkl_i64 _ _ _ _ c0) (fun A1 z1 v1 x1 y1 => ?_)
  have s1 := (x1 1 (by omega) (by omega)).trans s0
  have r1 := (x1 2 (by omega) (by omega)).trans r0
  have d1 := y1.trans d0
  refine ld_step (n := 46) (K := 4) (T := 22) (N := 90) (B := w.heap.size) (V := .int .u16 p.id) ⟨rfl, rfl, rfl⟩ ⟨rfl, rfl, rfl⟩ s1 z1 (by omega) (by omega) (pkf4 _ _) (pkl_u16 _ _ _ _ c4) (fun A2 z2 v2 x2 y2 => ?_)
  have s2 := (x2 1 (by omega) (by omega)).trans s1
  have r2 := (x2 2 (by omega) (by omega)).trans r1
  have d2 := y2.trans d1
  have v1 := (x2 45 (by omega) (by omega)).trans v1
  refine ld_step (n := 48) (K := 19) (T := 5) (N := 90) (B := w.heap.size) (V := .int .u8 p.code) ⟨rfl, rfl, rfl⟩ ⟨rfl, rfl, rfl⟩ s2 z2 (by omega) (by omega) (pkf19 _ _) (pkl_u8 _ _ _ _ c19) (fun A3 z3 v3 x3 y3 => ?_)
  have s3 := (x3 1 (by omega) (by omega)).trans s2
  have r3 := (x3 2 (by omega) (by omega)).trans r2
  have d3 := y3.trans d2
  have v1 := (x3 45 (by omega) (by omega)).trans v1
  have v2 := (x3 47 (by omega) (by omega)).trans v2
  refine ld_step (n := 50) (K := 24) (T := 31) (N := 90) (B := w.heap.size) (V := .slice s.pa p.props.length s.pc) ⟨rfl, rfl, rfl⟩ ⟨rfl, rfl, rfl⟩ s3 z3 (by omega) (by omega) (pkf24 _ _) (pkl_sl27 _ _ _ _ c24) (fun A4 z4 v4 x4 y4 => ?_)
  have s4 := (x4 1 (by omega) (by omega)).trans s3
  have r4 := (x4 2 (by omega) (by omega)).trans r3
  have d4 := y4.trans d3
  have v1 := (x4 45 (by omega) (by omega)).trans v1
  have v2 := (x4 47 (by omega) (by omega)).trans v2
  have v3 := (x4 49 (by omega) (by omega)).trans v3
  refine wpList_do (w' := wB) rfl (v := .agg (Pk.cells { zk 7 with id := p.id, code := p.code, props := p.props } ⟨none, 0, none, 0, none, 0, s.pa, s.pc⟩)) ?_ ?_
  · simp only [execOp, List.map_toArray, List.map_cons, List.map_nil, eval_of v1, eval_of v2, eval_of v3, eval_of v4]
    refine run_value (run_build wB _ _ _ ?_)
    kernel_rfl
  have b9e : (A4.put (some 52) (.agg (Pk.cells { zk 7 with id := p.id, code := p.code, props := p.props } ⟨none, 0, none, 0, none, 0, s.pa, s.pc⟩))).tmps[52]? = some (.agg (Pk.cells { zk 7 with id := p.id, code := p.code, props := p.props } ⟨none, 0, none, 0, none, 0, s.pa, s.pc⟩)) := put_eq (by rw [z4]; omega)
  have r9e : (A4.put (some 52) (.agg (Pk.cells { zk 7 with id := p.id, code := p.code, props := p.props } ⟨none, 0, none, 0, none, 0, s.pa, s.pc⟩))).tmps[2]? = some (.pointer (some ⟨w.heap.size + 1, 0, none⟩)) := by rw [put_ne (by omega)]; exact r4
  have d9e : (A4.put (some 52) (.agg (Pk.cells { zk 7 with id := p.id, code := p.code, props := p.props } ⟨none, 0, none, 0, none, 0, s.pa, s.pc⟩))).defers = [] := d4
  change wpList _ _ _ _ (A4.put (some 52) (.agg (Pk.cells { zk 7 with id := p.id, code := p.code, props := p.props } ⟨none, 0, none, 0, none, 0, s.pa, s.pc⟩))) wB
  generalize A4.put (some 52) (.agg (Pk.cells { zk 7 with id := p.id, code := p.code, props := p.props } ⟨none, 0, none, 0, none, 0, s.pa, s.pc⟩)) = A9 at *
  obtain ⟨w9, hst, b9, k9⟩ := store_agg (P := Tryd.prog) (S := 34) (c := Pk.cells { zk 7 with id := p.id, code := p.code, props := p.props } ⟨none, 0, none, 0, none, 0, s.pa, s.pc⟩) wB hB2 (by kernel_rfl) rfl (pk_one _ _)
  refine wpList_st rfl (w' := w9) ?_ ?_
  · simp only [execOp, eval_of b9e, eval_of r9e]
    exact run_skip hst
  refine wpList_nil ?_
  have e9 := load_agg (P := Tryd.prog) (k := 25) (S := 34) (Pk.cells { zk 7 with id := p.id, code := p.code, props := p.props } ⟨none, 0, none, 0, none, 0, s.pa, s.pc⟩) rfl (w.heap.size + 1) w9 (by go_simp) (by go_simp) (fun i => b9.cell i)
  refine (show K2 A9 w9 from hK2 _ _ ?_)
  refine wp_ret_any ?_
  refine (show bodyPost Tryd.prog Tryd.f19 (fun e w' => e = Ending.returned (.agg (Pk.cells { zk 7 with id := p.id, code := p.code, props := p.props } ⟨none, 0, none, 0, none, 0, s.pa, s.pc⟩)) ∧ Kept No w w') Exit.ret _ _ from ?_)
  exact bodyPost_ret (v := .agg (Pk.cells { zk 7 with id := p.id, code := p.code, props := p.props } ⟨none, 0, none, 0, none, 0, s.pa, s.pc⟩)) (results_cell Tryd.results19 (by simp [Array.getD_eq_getD_getElem?, r9e]) e9) d9e ⟨rfl, hkB.then k9 (fun i hi e => by have : i = w.heap.size + 1 := e; omega)⟩

set_option maxHeartbeats 4000000 in
theorem own_k8 (p : Pk) (s : Sl) (w : World) (hk : p.kind = 8) :
    Calls Tryd.prog 19 #[p.val s] w fun e w' => e = .returned (.agg (Pk.cells { zk 8 with id := p.id, props := p.props, filters := p.filters } ⟨none, 0, s.fa, s.fc, none, 0, s.pa, s.pc⟩)) ∧ Kept No w w' := by
  have hB1 := (Blk.new w 34 (p.cells s)).alloc (.cells zeroPk 34)
  have hB2 := Blk.new (w.alloc (.cells (p.cells s) 34)) 34 zeroPk
  have hkB : Kept No w ((w.alloc (.cells (p.cells s) 34)).alloc (.cells zeroPk 34)) := ((Kept.refl No w).alloc _).alloc _
  simp only [World.size_alloc] at hB2
  go_enter Tryd.func19, Tryd.ntmps19
  refine wp_seq_k (fun K9 hK9 => ?_)
  have HK := Lib.hid hK9
  clear hK9
  unfold Pk.val
  go_wp2
  refine HK.out _ _ ?_
  clear HK
  change Code.wp _ _ _ _ ((w.alloc (.cells (p.cells s) 34)).alloc (.cells zeroPk 34))
  generalize (w.alloc (.cells (p.cells s) 34)).alloc (.cells zeroPk 34) = wB at *
  have c0 : wB.cell? ⟨w.heap.size, 0, none⟩ = some (.int .i64 8) := (hB1.cell 0).trans (by rw [← hk]; rfl)
  have c4 : wB.cell? ⟨w.heap.size, 4, none⟩ = some (.int .u16 p.id) := (hB1.cell 4).trans rfl
  have c24 : wB.cell? ⟨w.heap.size, 24, none⟩ = some (.slice s.pa p.props.length s.pc) := (hB1.cell 24).trans rfl
  have c22 : wB.cell? ⟨w.heap.size, 22, none⟩ = some (.slice s.fa p.filters.length s.fc) := (hB1.cell 22).trans rfl
  have u := Tryd.underlying34
  go_upto_region 15 with fail
  rename_i K2 hK2
  refine wp_region_lit ?_
  generalize hA0 : ({ tmps := _, defers := [] } : Act) = A0
  have z0 : A0.tmps.size = 90 := by rw [← hA0]; rfl
  have s0 : A0.tmps[1]? = some (.pointer (some ⟨w.heap.size, 0, none⟩)) := by rw [← hA0]; rfl
  have r0 : A0.tmps[2]? = some (.pointer (some ⟨w.heap.size + 1, 0, none⟩)) := by rw [← hA0]; rfl
  have d0 : A0.defers = [] := by rw [← hA0]
  clear hA0
  refine ld_step (n := 56) (K := 0) (T := 3) (N := 90) (B := w.heap.size) (V := .int .i64 8) ⟨rfl, rfl, rfl⟩ ⟨rfl, rfl, rfl⟩ s0 z0 (by omega) (by omega) (pkf0 _ _) (pkl_i64 _ _ _ _ c0) (fun A1 z1 v1 x1 y1 => ?_)
  have s1 := (x1 1 (by omega) (by omega)).trans s0
  have r1 := (x1 2 (by omega) (by omega)).trans r0
  have d1 := y1.trans d0
  refine ld_step (n := 58) (K := 4) (T := 22) (N := 90) (B := w.heap.size) (V := .int .u16 p.id) ⟨rfl, rfl, rfl⟩ ⟨rfl, rfl, rfl⟩ s1 z1 (by omega) (by omega) (pkf4 _ _) (pkl_u16 _ _ _ _ c4) (fun A2 z2 v2 x2 y2 => ?_)
  have s2 := (x2 1 (by omega) (by omega)).trans s1
  have r2 := (x2 2 (by omega) (by omega)).trans r1
  have d2 := y2.trans d1
  have v1 := (x2 57 (by omega) (by omega)).trans v1
  refine ld_step (n := 60) (K := 24) (T := 31) (N := 90) (B := w.heap.size) (V := .slice s.pa p.props.length s.pc) ⟨rfl, rfl, rfl⟩ ⟨rfl, rfl, rfl⟩ s2 z2 (by omega) (by omega) (pkf24 _ _) (pkl_sl27 _ _ _ _ c24) (fun A3 z3 v3 x3 y3 => ?_)
  have s3 := (x3 1 (by omega) (by omega)).trans s2
  have r3 := (x3 2 (by omega) (by omega)).trans r2
  have d3 := y3.trans d2
  have v1 := (x3 57 (by omega) (by omega)).trans v1
  have v2 := (x3 59 (by omega) (by omega)).trans v2
  refine ld_step (n := 62) (K := 22) (T := 32) (N := 90) (B := w.heap.size) (V := .slice s.fa p.filters.length s.fc) ⟨rfl, rfl, rfl⟩ ⟨rfl, rfl, rfl⟩ s3 z3 (by omega) (by omega) (pkf22 _ _) (pkl_sl77 _ _ _ _ c22) (fun A4 z4 v4 x4 y4 => ?_)
  have s4 := (x4 1 (by omega) (by omega)).trans s3
  have r4 := (x4 2 (by omega) (by omega)).trans r3
  have d4 := y4.trans d3
  have v1 := (x4 57 (by omega) (by omega)).trans v1
  have v2 := (x4 59 (by omega) (by omega)).trans v2
  have v3 := (x4 61 (by omega) (by omega)).trans v3
  refine wpList_do (w' := wB) rfl (v := .agg (Pk.cells { zk 8 with id := p.id, props := p.props, filters := p.filters } ⟨none, 0, s.fa, s.fc, none, 0, s.pa, s.pc⟩)) ?_ ?_
  · simp only [execOp, List.map_toArray, List.map_cons, List.map_nil, eval_of v1, eval_of v2, eval_of v3, eval_of v4]
    refine run_value (run_build wB _ _ _ ?_)
    kernel_rfl
  have b9e : (A4.put (some 64) (.agg (Pk.cells { zk 8 with id := p.id, props := p.props, filters := p.filters } ⟨none, 0, s.fa, s.fc, none, 0, s.pa, s.pc⟩))).tmps[64]? = some (.agg (Pk.cells { zk 8 with id := p.id, props := p.props, filters := p.filters } ⟨none, 0, s.fa, s.fc, none, 0, s.pa, s.pc⟩)) := put_eq (by rw [z4]; omega)
  have r9e : (A4.put (some 64) (.agg (Pk.cells { zk 8 with id := p.id, props := p.props, filters := p.filters } ⟨none, 0, s.fa, s.fc, none, 0, s.pa, s.pc⟩))).tmps[2]? = some (.pointer (some ⟨w.heap.size + 1, 0, none⟩)) := by rw [put_ne (by omega)]; exact r4
  have d9e : (A4.put (some 64) (.agg (Pk.cells { zk 8 with id := p.id, props := p.props, filters := p.filters } ⟨none, 0, s.fa, s.fc, none, 0, s.pa, s.pc⟩))).defers = [] := d4
  change wpList _ _ _ _ (A4.put (some 64) (.agg (Pk.cells { zk 8 with id := p.id, props := p.props, filters := p.filters } ⟨none, 0, s.fa, s.fc, none, 0, s.pa, s.pc⟩))) wB
  generalize A4.put (some 64) (.agg (Pk.cells { zk 8 with id := p.id, props := p.props, filters := p.filters } ⟨none, 0, s.fa, s.fc, none, 0, s.pa, s.pc⟩)) = A9 at *
  obtain ⟨w9, hst, b9, k9⟩ := store_agg (P := Tryd.prog) (S := 34) (c := Pk.cells { zk 8 with id := p.id, props := p.props, filters := p.filters } ⟨none, 0, s.fa, s.fc, none, 0, s.pa, s.pc⟩) wB hB2 (by kernel_rfl) rfl (pk_one _ _)
  refine wpList_st rfl (w' := w9) ?_ ?_
  · simp only [execOp, eval_of b9e, eval_of r9e]
    exact run_skip hst
  refine wpList_nil ?_
  have e9 := load_agg (P := Tryd.prog) (k := 25) (S := 34) (Pk.cells { zk 8 with id := p.id, props := p.props, filters := p.filters } ⟨none, 0, s.fa, s.fc, none, 0, s.pa, s.pc⟩) rfl (w.heap.size + 1) w9 (by go_simp) (by go_simp) (fun i => b9.cell i)
  refine (show K2 A9 w9 from hK2 _ _ ?_)
  refine wp_ret_any ?_
  refine (show bodyPost Tryd.prog Tryd.f19 (fun e w' => e = Ending.returned (.agg (Pk.cells { zk 8 with id := p.id, props := p.props, filters := p.filters } ⟨none, 0, s.fa, s.fc, none, 0, s.pa, s.pc⟩)) ∧ Kept No w w') Exit.ret _ _ from ?_)
  exact bodyPost_ret (v := .agg (Pk.cells { zk 8 with id := p.id, props := p.props, filters := p.filters } ⟨none, 0, s.fa, s.fc, none, 0, s.pa, s.pc⟩)) (results_cell Tryd.results19 (by simp [Array.getD_eq_getD_getElem?, r9e]) e9) d9e ⟨rfl, hkB.then k9 (fun i hi e => by have : i = w.heap.size + 1 := e; omega)⟩

set_option maxHeartbeats 4000000 in
theorem own_k9 (p : Pk) (s : Sl) (w : World) (hk : p.kind = 9) :
    Calls Tryd.prog 19 #[p.val s] w fun e w' => e = .returned (.agg (Pk.cells { zk 9 with id := p.id, props := p.props, codes := p.codes } ⟨none, 0, none, 0, s.ca, s.cc, s.pa, s.pc⟩)) ∧ Kept No w w' := by
  have hB1 := (Blk.new w 34 (p.cells s)).alloc (.cells zeroPk 34)
  have hB2 := Blk.new (w.alloc (.cells (p.cells s) 34)) 34 zeroPk
  have hkB : Kept No w ((w.alloc (.cells (p.cells s) 34)).alloc (.cells zeroPk 34)) := ((Kept.refl No w).alloc _).alloc _
  simp only [World.size_alloc] at hB2
  go_enter Tryd.func19, Tryd.ntmps19
  refine wp_seq_k (fun K9 hK9 => ?_)
  have HK := Lib.hid hK9
  clear hK9
  unfold Pk.val
  go_wp2
  refine HK.out _ _ ?_
  clear HK
  change Code.wp _ _ _ _ ((w.alloc (.cells (p.cells s) 34)).alloc (.cells zeroPk 34))
  generalize (w.alloc (.cells (p.cells s) 34)).alloc (.cells zeroPk 34) = wB at *
  have c0 : wB.cell? ⟨w.heap.size, 0, none⟩ = some (.int .i64 9) := (hB1.cell 0).trans (by rw [← hk]; rfl)
  have c4 : wB.cell? ⟨w.heap.size, 4, none⟩ = some (.int .u16 p.id) := (hB1.cell 4).trans rfl
  have c24 : wB.cell? ⟨w.heap.size, 24, none⟩ = some (.slice s.pa p.props.length s.pc) := (hB1.cell 24).trans rfl
  have c23 : wB.cell? ⟨w.heap.size, 23, none⟩ = some (.slice s.ca p.codes.length s.cc) := (hB1.cell 23).trans rfl
  have u := Tryd.underlying34
  go_upto_region 18 with fail
  rename_i K2 hK2
  refine wp_region_lit ?_
  generalize hA0 : ({ tmps := _, defers := [] } : Act) = A0
  have z0 : A0.tmps.size = 90 := by rw [← hA0]; rfl
  have s0 : A0.tmps[1]? = some (.pointer (some ⟨w.heap.size, 0, none⟩)) := by rw [← hA0]; rfl
  have r0 : A0.tmps[2]? = some (.pointer (some ⟨w.heap.size + 1, 0, none⟩)) := by rw [← hA0]; rfl
  have d0 : A0.defers = [] := by rw [← hA0]
  clear hA0
  refine ld_step (n := 68) (K := 0) (T := 3) (N := 90) (B := w.heap.size) (V := .int .i64 9) ⟨rfl, rfl, rfl⟩ ⟨rfl, rfl, rfl⟩ s0 z0 (by omega) (by omega) (pkf0 _ _) (pkl_i64 _ _ _ _ c0) (fun A1 z1 v1 x1 y1 => ?_)
  have s1 := (x1 1 (by omega) (by omega)).trans s0
  have r1 := (x1 2 (by omega) (by omega)).trans r0
  have d1 := y1.trans d0
  refine ld_step (n := 70) (K := 4) (T := 22) (N := 90) (B := w.heap.size) (V := .int .u16 p.id) ⟨rfl, rfl, rfl⟩ ⟨rfl, rfl, rfl⟩ s1 z1 (by omega) (by omega) (pkf4 _ _) (pkl_u16 _ _ _ _ c4) (fun A2 z2 v2 x2 y2 => ?_)
  have s2 := (x2 1 (by omega) (by omega)).trans s1
  have r2 := (x2 2 (by omega) (by omega)).trans r1
  have d2 := y2.trans d1
  have v1 := (x2 69 (by omega) (by omega)).trans v1
  refine ld_step (n := 72) (K := 24) (T := 31) (N := 90) (B := w.heap.size) (V := .slice s.pa p.props.length s.pc) ⟨rfl, rfl, rfl⟩ ⟨rfl, rfl, rfl⟩ s2 z2 (by omega) (by omega) (pkf24 _ _) (pkl_sl27 _ _ _ _ c24) (fun A3 z3 v3 x3 y3 => ?_)
  have s3 := (x3 1 (by omega) (by omega)).trans s2
  have r3 := (x3 2 (by omega) (by omega)).trans r2
  have d3 := y3.trans d2
  have v1 := (x3 69 (by omega) (by omega)).trans v1
  have v2 := (x3 71 (by omega) (by omega)).trans v2
  refine ld_step (n := 74) (K := 23) (T := 25) (N := 90) (B := w.heap.size) (V := .slice s.ca p.codes.length s.cc) ⟨rfl, rfl, rfl⟩ ⟨rfl, rfl, rfl⟩ s3 z3 (by omega) (by omega) (pkf23 _ _) (pkl_sl25 _ _ _ _ c23) (fun A4 z4 v4 x4 y4 => ?_)
  have s4 := (x4 1 (by omega) (by omega)).trans s3
  have r4 := (x4 2 (by omega) (by omega)).trans r3
  have d4 := y4.trans d3
  have v1 := (x4 69 (by omega) (by omega)).trans v1
  have v2 := (x4 71 (by omega) (by omega)).trans v2
  have v3 := (x4 73 (by omega) (by omega)).trans v3
  refine wpList_do (w' := wB) rfl (v := .agg (Pk.cells { zk 9 with id := p.id, props := p.props, codes := p.codes } ⟨none, 0, none, 0, s.ca, s.cc, s.pa, s.pc⟩)) ?_ ?_
  · simp only [execOp, List.map_toArray, List.map_cons, List.map_nil, eval_of v1, eval_of v2, eval_of v3, eval_of v4]
    refine run_value (run_build wB _ _ _ ?_)
    kernel_rfl
  have b9e : (A4.put (some 76) (.agg (Pk.cells { zk 9 with id := p.id, props := p.props, codes := p.codes } ⟨none, 0, none, 0, s.ca, s.cc, s.pa, s.pc⟩))).tmps[76]? = some (.agg (Pk.cells { zk 9 with id := p.id, props := p.props, codes := p.codes } ⟨none, 0, none, 0, s.ca, s.cc, s.pa, s.pc⟩)) := put_eq (by rw [z4]; omega)
  have r9e : (A4.put (some 76) (.agg (Pk.cells { zk 9 with id := p.id, props := p.props, codes := p.codes } ⟨none, 0, none, 0, s.ca, s.cc, s.pa, s.pc⟩))).tmps[2]? = some (.pointer (some ⟨w.heap.size + 1, 0, none⟩)) := by rw [put_ne (by omega)]; exact r4
  have d9e : (A4.put (some 76) (.agg (Pk.cells { zk 9 with id := p.id, props := p.props, codes := p.codes } ⟨none, 0, none, 0, s.ca, s.cc, s.pa, s.pc⟩))).defers = [] := d4
  change wpList _ _ _ _ (A4.put (some 76) (.agg (Pk.cells { zk 9 with id := p.id, props := p.props, codes := p.codes } ⟨none, 0, none, 0, s.ca, s.cc, s.pa, s.pc⟩))) wB
  generalize A4.put (some 76) (.agg (Pk.cells { zk 9 with id := p.id, props := p.props, codes := p.codes } ⟨none, 0, none, 0, s.ca, s.cc, s.pa, s.pc⟩)) = A9 at *
  obtain ⟨w9, hst, b9, k9⟩ := store_agg (P := Tryd.prog) (S := 34) (c := Pk.cells { zk 9 with id := p.id, props := p.props, codes := p.codes } ⟨none, 0, none, 0, s.ca, s.cc, s.pa, s.pc⟩) wB hB2 (by kernel_rfl) rfl (pk_one _ _)
  refine wpList_st rfl (w' := w9) ?_ ?_
  · simp only [execOp, eval_of b9e, eval_of r9e]
    exact run_skip hst
  refine wpList_nil ?_
  have e9 := load_agg (P := Tryd.prog) (k := 25) (S := 34) (Pk.cells { zk 9 with id := p.id, props := p.props, codes := p.codes } ⟨none, 0, none, 0, s.ca, s.cc, s.pa, s.pc⟩) rfl (w.heap.size + 1) w9 (by go_simp) (by go_simp) (fun i => b9.cell i)
  refine (show K2 A9 w9 from hK2 _ _ ?_)
  refine wp_ret_any ?_
  refine (show bodyPost Tryd.prog Tryd.f19 (fun e w' => e = Ending.returned (.agg (Pk.cells { zk 9 with id := p.id, props := p.props, codes := p.codes } ⟨none, 0, none, 0, s.ca, s.cc, s.pa, s.pc⟩)) ∧ Kept No w w') Exit.ret _ _ from ?_)
  exact bodyPost_ret (v := .agg (Pk.cells { zk 9 with id := p.id, props := p.props, codes := p.codes } ⟨none, 0, none, 0, s.ca, s.cc, s.pa, s.pc⟩)) (results_cell Tryd.results19 (by simp [Array.getD_eq_getD_getElem?, r9e]) e9) d9e ⟨rfl, hkB.then k9 (fun i hi e => by have : i = w.heap.size + 1 := e; omega)⟩

set_option maxHeartbeats 4000000 in
theorem own_k10 (p : Pk) (s : Sl) (w : World) (hk : p.kind = 10) :
    Calls Tryd.prog 19 #[p.val s] w fun e w' => e = .returned (.agg (Pk.cells { zk 10 with id := p.id, props := p.props, filters := p.filters } ⟨none, 0, s.fa, s.fc, none, 0, s.pa, s.pc⟩)) ∧ Kept No w w' := by
  have hB1 := (Blk.new w 34 (p.cells s)).alloc (.cells zeroPk 34)
  have hB2 := Blk.new (w.alloc (.cells (p.cells s) 34)) 34 zeroPk
  have hkB : Kept No w ((w.alloc (.cells (p.cells s) 34)).alloc (.cells zeroPk 34)) := ((Kept.refl No w).alloc _).alloc _
  simp only [World.size_alloc] at hB2
  go_enter Tryd.func19, Tryd.ntmps19
  refine wp_seq_k (fun K9 hK9 => ?_)
  have HK := Lib.hid hK9
  clear hK9
  unfold Pk.val
  go_wp2
  refine HK.out _ _ ?_
  clear HK
  change Code.wp _ _ _ _ ((w.alloc (.cells (p.cells s) 34)).alloc (.cells zeroPk 34))
  generalize (w.alloc (.cells (p.cells s) 34)).alloc (.cells zeroPk 34) = wB at *
  have c0 : wB.cell? ⟨w.heap.size, 0, none⟩ = some (.int .i64 10) := (hB1.cell 0).trans (by rw [← hk]; rfl)
  have c4 : wB.cell? ⟨w.heap.size, 4, none⟩ = some (.int .u16 p.id) := (hB1.cell 4).trans rfl
  have c24 : wB.cell? ⟨w.heap.size, 24, none⟩ = some (.slice s.pa p.props.length s.pc) := (hB1.cell 24).trans rfl
  have c22 : wB.cell? ⟨w.heap.size, 22, none⟩ = some (.slice s.fa p.filters.length s.fc) := (hB1.cell 22).trans rfl
  have u := Tryd.underlying34
  go_upto_region 15 with fail
  rename_i K2 hK2
  refine wp_region_lit ?_
  generalize hA0 : ({ tmps := _, defers := [] } : Act) = A0
  have z0 : A0.tmps.size = 90 := by rw [← hA0]; rfl
  have s0 : A0.tmps[1]? = some (.pointer (some ⟨w.heap.size, 0, none⟩)) := by rw [← hA0]; rfl
  have r0 : A0.tmps[2]? = some (.pointer (some ⟨w.heap.size + 1, 0, none⟩)) := by rw [← hA0]; rfl
  have d0 : A0.defers = [] := by rw [← hA0]
  clear hA0
  refine ld_step (n := 56) (K := 0) (T := 3) (N := 90) (B := w.heap.size) (V := .int .i64 10) ⟨rfl, rfl, rfl⟩ ⟨rfl, rfl, rfl⟩ s0 z0 (by omega) (by omega) (pkf0 _ _) (pkl_i64 _ _ _ _ c0) (fun A1 z1 v1 x1 y1 => ?_)
  have s1 := (x1 1 (by omega) (by omega)).trans s0
  have r1 := (x1 2 (by omega) (by omega)).trans r0
  have d1 := y1.trans d0
  refine ld_step (n := 58) (K := 4) (T := 22) (N := 90) (B := w.heap.size) (V := .int .u16 p.id) ⟨rfl, rfl, rfl⟩ ⟨rfl, rfl, rfl⟩ s1 z1 (by omega) (by omega) (pkf4 _ _) (pkl_u16 _ _ _ _ c4) (fun A2 z2 v2 x2 y2 => ?_)
  have s2 := (x2 1 (by omega) (by omega)).trans s1
  have r2 := (x2 2 (by omega) (by omega)).trans r1
  have d2 := y2.trans d1
  have v1 := (x2 57 (by omega) (by omega)).trans v1
  refine ld_step (n := 60) (K := 24) (T := 31) (N := 90) (B := w.heap.size) (V := .slice s.pa p.props.length s.pc) ⟨rfl, rfl, rfl⟩ ⟨rfl, rfl, rfl⟩ s2 z2 (by omega) (by omega) (pkf24 _ _) (pkl_sl27 _ _ _ _ c24) (fun A3 z3 v3 x3 y3 => ?_)
  have s3 := (x3 1 (by omega) (by omega)).trans s2
  have r3 := (x3 2 (by omega) (by omega)).trans r2
  have d3 := y3.trans d2
  have v1 := (x3 57 (by omega) (by omega)).trans v1
  have v2 := (x3 59 (by omega) (by omega)).trans v2
  refine ld_step (n := 62) (K := 22) (T := 32) (N := 90) (B := w.heap.size) (V := .slice s.fa p.filters.length s.fc) ⟨rfl, rfl, rfl⟩ ⟨rfl, rfl, rfl⟩ s3 z3 (by omega) (by omega) (pkf22 _ _) (pkl_sl77 _ _ _ _ c22) (fun A4 z4 v4 x4 y4 => ?_)
  have s4 := (x4 1 (by omega) (by omega)).trans s3
  have r4 := (x4 2 (by omega) (by omega)).trans r3
  have d4 := y4.trans d3
  have v1 := (x4 57 (by omega) (by omega)).trans v1
  have v2 := (x4 59 (by omega) (by omega)).trans v2
  have v3 := (x4 61 (by omega) (by omega)).trans v3
  refine wpList_do (w' := wB) rfl (v := .agg (Pk.cells { zk 10 with id := p.id, props := p.props, filters := p.filters } ⟨none, 0, s.fa, s.fc, none, 0, s.pa, s.pc⟩)) ?_ ?_
  · simp only [execOp, List.map_toArray, List.map_cons, List.map_nil, eval_of v1, eval_of v2, eval_of v3, eval_of v4]
    refine run_value (run_build wB _ _ _ ?_)
    kernel_rfl
  have b9e : (A4.put (some 64) (.agg (Pk.cells { zk 10 with id := p.id, props := p.props, filters := p.filters } ⟨none, 0, s.fa, s.fc, none, 0, s.pa, s.pc⟩))).tmps[64]? = some (.agg (Pk.cells { zk 10 with id := p.id, props := p.props, filters := p.filters } ⟨none, 0, s.fa, s.fc, none, 0, s.pa, s.pc⟩)) := put_eq (by rw [z4]; omega)
  have r9e : (A4.put (some 64) (.agg (Pk.cells { zk 10 with id := p.id, props := p.props, filters := p.filters } ⟨none, 0, s.fa, s.fc, none, 0, s.pa, s.pc⟩))).tmps[2]? = some (.pointer (some ⟨w.heap.size + 1, 0, none⟩)) := by rw [put_ne (by omega)]; exact r4
  have d9e : (A4.put (some 64) (.agg (Pk.cells { zk 10 with id := p.id, props := p.props, filters := p.filters } ⟨none, 0, s.fa, s.fc, none, 0, s.pa, s.pc⟩))).defers = [] := d4
  change wpList _ _ _ _ (A4.put (some 64) (.agg (Pk.cells { zk 10 with id := p.id, props := p.props, filters := p.filters } ⟨none, 0, s.fa, s.fc, none, 0, s.pa, s.pc⟩))) wB
  generalize A4.put (some 64) (.agg (Pk.cells { zk 10 with id := p.id, props := p.props, filters := p.filters } ⟨none, 0, s.fa, s.fc, none, 0, s.pa, s.pc⟩)) = A9 at *
  obtain ⟨w9, hst, b9, k9⟩ := store_agg (P := Tryd.prog) (S := 34) (c := Pk.cells { zk 10 with id := p.id, props := p.props, filters := p.filters } ⟨none, 0, s.fa, s.fc, none, 0, s.pa, s.pc⟩) wB hB2 (by kernel_rfl) rfl (pk_one _ _)
  refine wpList_st rfl (w' := w9) ?_ ?_
  · simp only [execOp, eval_of b9e, eval_of r9e]
    exact run_skip hst
  refine wpList_nil ?_
  have e9 := load_agg (P := Tryd.prog) (k := 25) (S := 34) (Pk.cells { zk 10 with id := p.id, props := p.props, filters := p.filters } ⟨none, 0, s.fa, s.fc, none, 0, s.pa, s.pc⟩) rfl (w.heap.size + 1) w9 (by go_simp) (by go_simp) (fun i => b9.cell i)
  refine (show K2 A9 w9 from hK2 _ _ ?_)
  refine wp_ret_any ?_
  refine (show bodyPost Tryd.prog Tryd.f19 (fun e w' => e = Ending.returned (.agg (Pk.cells { zk 10 with id := p.id, props := p.props, filters := p.filters } ⟨none, 0, s.fa, s.fc, none, 0, s.pa, s.pc⟩)) ∧ Kept No w w') Exit.ret _ _ from ?_)
  exact bodyPost_ret (v := .agg (Pk.cells { zk 10 with id := p.id, props := p.props, filters := p.filters } ⟨none, 0, s.fa, s.fc, none, 0, s.pa, s.pc⟩)) (results_cell Tryd.results19 (by simp [Array.getD_eq_getD_getElem?, r9e]) e9) d9e ⟨rfl, hkB.then k9 (fun i hi e => by have : i = w.heap.size + 1 := e; omega)⟩

set_option maxHeartbeats 4000000 in
theorem own_k11 (p : Pk) (s : Sl) (w : World) (hk : p.kind = 11) :
    Calls Tryd.prog 19 #[p.val s] w fun e w' => e = .returned (.agg (Pk.cells { zk 11 with id := p.id, props := p.props, codes := p.codes } ⟨none, 0, none, 0, s.ca, s.cc, s.pa, s.pc⟩)) ∧ Kept No w w' := by
  have hB1 := (Blk.new w 34 (p.cells s)).alloc (.cells zeroPk 34)
  have hB2 := Blk.new (w.alloc (.cells (p.cells s) 34)) 34 zeroPk
  have hkB : Kept No w ((w.alloc (.cells (p.cells s) 34)).alloc (.cells zeroPk 34)) := ((Kept.refl No w).alloc _).alloc _
  simp only [World.size_alloc] at hB2
  go_enter Tryd.func19, Tryd.ntmps19
  refine wp_seq_k (fun K9 hK9 => ?_)
  have HK := Lib.hid hK9
  clear hK9
  unfold Pk.val
  go_wp2
  refine HK.out _ _ ?_
  clear HK
  change Code.wp _ _ _ _ ((w.alloc (.cells (p.cells s) 34)).alloc (.cells zeroPk 34))
  generalize (w.alloc (.cells (p.cells s) 34)).alloc (.cells zeroPk 34) = wB at *
  have c0 : wB.cell? ⟨w.heap.size, 0, none⟩ = some (.int .i64 11) := (hB1.cell 0).trans (by rw [← hk]; rfl)
  have c4 : wB.cell? ⟨w.heap.size, 4, none⟩ = some (.int .u16 p.id) := (hB1.cell 4).trans rfl
  have c24 : wB.cell? ⟨w.heap.size, 24, none⟩ = some (.slice s.pa p.props.length s.pc) := (hB1.cell 24).trans rfl
  have c23 : wB.cell? ⟨w.heap.size, 23, none⟩ = some (.slice s.ca p.codes.length s.cc) := (hB1.cell 23).trans rfl
  have u := Tryd.underlying34
  go_upto_region 18 with fail
  rename_i K2 hK2
  refine wp_region_lit ?_
  generalize hA0 : ({ tmps := _, defers := [] } : Act) = A0
  have z0 : A0.tmps.size = 90 := by rw [← hA0]; rfl
  have s0 : A0.tmps[1]? = some (.pointer (some ⟨w.heap.size, 0, none⟩)) := by rw [← hA0]; rfl
  have r0 : A0.tmps[2]? = some (.pointer (some ⟨w.heap.size + 1, 0, none⟩)) := by rw [← hA0]; rfl
  have d0 : A0.defers = [] := by rw [← hA0]
  clear hA0
  refine ld_step (n := 68) (K := 0) (T := 3) (N := 90) (B := w.heap.size) (V := .int .i64 11) ⟨rfl, rfl, rfl⟩ ⟨rfl, rfl, rfl⟩ s0 z0 (by omega) (by omega) (pkf0 _ _) (pkl_i64 _ _ _ _ c0) (fun A1 z1 v1 x1 y1 => ?_)
  have s1 := (x1 1 (by omega) (by omega)).trans s0
  have r1 := (x1 2 (by omega) (by omega)).trans r0
  have d1 := y1.trans d0
  refine ld_step (n := 70) (K := 4) (T := 22) (N := 90) (B := w.heap.size) (V := .int .u16 p.id) ⟨rfl, rfl, rfl⟩ ⟨rfl, rfl, rfl⟩ s1 z1 (by omega) (by omega) (pkf4 _ _) (pkl_u16 _ _ _ _ c4) (fun A2 z2 v2 x2 y2 => ?_)
  have s2 := (x2 1 (by omega) (by omega)).trans s1
  have r2 := (x2 2 (by omega) (by omega)).trans r1
  have d2 := y2.trans d1
  have v1 := (x2 69 (by omega) (by omega)).trans v1
  refine ld_step (n := 72) (K := 24) (T := 31) (N := 90) (B := w.heap.size) (V := .slice s.pa p.props.length s.pc) ⟨rfl, rfl, rfl⟩ ⟨rfl, rfl, rfl⟩ s2 z2 (by omega) (by omega) (pkf24 _ _) (pkl_sl27 _ _ _ _ c24) (fun A3 z3 v3 x3 y3 => ?_)
  have s3 := (x3 1 (by omega) (by omega)).trans s2
  have r3 := (x3 2 (by omega) (by omega)).trans r2
  have d3 := y3.trans d2
  have v1 := (x3 69 (by omega) (by omega)).trans v1
  have v2 := (x3 71 (by omega) (by omega)).trans v2
  refine ld_step (n := 74) (K := 23) (T := 25) (N := 90) (B := w.heap.size) (V := .slice s.ca p.codes.length s.cc) ⟨rfl, rfl, rfl⟩ ⟨rfl, rfl, rfl⟩ s3 z3 (by omega) (by omega) (pkf23 _ _) (pkl_sl25 _ _ _ _ c23) (fun A4 z4 v4 x4 y4 => ?_)
  have s4 := (x4 1 (by omega) (by omega)).trans s3
  have r4 := (x4 2 (by omega) (by omega)).trans r3
  have d4 := y4.trans d3
  have v1 := (x4 69 (by omega) (by omega)).trans v1
  have v2 := (x4 71 (by omega) (by omega)).trans v2
  have v3 := (x4 73 (by omega) (by omega)).trans v3
  refine wpList_do (w' := wB) rfl (v := .agg (Pk.cells { zk 11 with id := p.id, props := p.props, codes := p.codes } ⟨none, 0, none, 0, s.ca, s.cc, s.pa, s.pc⟩)) ?_ ?_
  · simp only [execOp, List.map_toArray, List.map_cons, List.map_nil, eval_of v1, eval_of v2, eval_of v3, eval_of v4]
    refine run_value (run_build wB _ _ _ ?_)
    kernel_rfl
  have b9e : (A4.put (some 76) (.agg (Pk.cells { zk 11 with id := p.id, props := p.props, codes := p.codes } ⟨none, 0, none, 0, s.ca, s.cc, s.pa, s.pc⟩))).tmps[76]? = some (.agg (Pk.cells { zk 11 with id := p.id, props := p.props, codes := p.codes } ⟨none, 0, none, 0, s.ca, s.cc, s.pa, s.pc⟩)) := put_eq (by rw [z4]; omega)
  have r9e : (A4.put (some 76) (.agg (Pk.cells { zk 11 with id := p.id, props := p.props, codes := p.codes } ⟨none, 0, none, 0, s.ca, s.cc, s.pa, s.pc⟩))).tmps[2]? = some (.pointer (some ⟨w.heap.size + 1, 0, none⟩)) := by rw [put_ne (by omega)]; exact r4
  have d9e : (A4.put (some 76) (.agg (Pk.cells { zk 11 with id := p.id, props := p.props, codes := p.codes } ⟨none, 0, none, 0, s.ca, s.cc, s.pa, s.pc⟩))).defers = [] := d4
  change wpList _ _ _ _ (A4.put (some 76) (.agg (Pk.cells { zk 11 with id := p.id, props := p.props, codes := p.codes } ⟨none, 0, none, 0, s.ca, s.cc, s.pa, s.pc⟩))) wB
  generalize A4.put (some 76) (.agg (Pk.cells { zk 11 with id := p.id, props := p.props, codes := p.codes } ⟨none, 0, none, 0, s.ca, s.cc, s.pa, s.pc⟩)) = A9 at *
  obtain ⟨w9, hst, b9, k9⟩ := store_agg (P := Tryd.prog) (S := 34) (c := Pk.cells { zk 11 with id := p.id, props := p.props, codes := p.codes } ⟨none, 0, none, 0, s.ca, s.cc, s.pa, s.pc⟩) wB hB2 (by kernel_rfl) rfl (pk_one _ _)
  refine wpList_st rfl (w' := w9) ?_ ?_
  · simp only [execOp, eval_of b9e, eval_of r9e]
    exact run_skip hst
  refine wpList_nil ?_
  have e9 := load_agg (P := Tryd.prog) (k := 25) (S := 34) (Pk.cells { zk 11 with id := p.id, props := p.props, codes := p.codes } ⟨none, 0, none, 0, s.ca, s.cc, s.pa, s.pc⟩) rfl (w.heap.size + 1) w9 (by go_simp) (by go_simp) (fun i => b9.cell i)
  refine (show K2 A9 w9 from hK2 _ _ ?_)
  refine wp_ret_any ?_
  refine (show bodyPost Tryd.prog Tryd.f19 (fun e w' => e = Ending.returned (.agg (Pk.cells { zk 11 with id := p.id, props := p.props, codes := p.codes } ⟨none, 0, none, 0, s.ca, s.cc, s.pa, s.pc⟩)) ∧ Kept No w w') Exit.ret _ _ from ?_)
  exact bodyPost_ret (v := .agg (Pk.cells { zk 11 with id := p.id, props := p.props, codes := p.codes } ⟨none, 0, none, 0, s.ca, s.cc, s.pa, s.pc⟩)) (results_cell Tryd.results19 (by simp [Array.getD_eq_getD_getElem?, r9e]) e9) d9e ⟨rfl, hkB.then k9 (fun i hi e => by have : i = w.heap.size + 1 := e; omega)⟩

set_option maxHeartbeats 4000000 in
theorem own_k12 (p : Pk) (s : Sl) (w : World) (hk : p.kind = 12) :
    Calls Tryd.prog 19 #[p.val s] w fun e w' => e = .returned (.agg (Pk.cells { zk 12 with  } ⟨none, 0, none, 0, none, 0, none, 0⟩)) ∧ Kept No w w' := by
  have hB1 := (Blk.new w 34 (p.cells s)).alloc (.cells zeroPk 34)
  have hB2 := Blk.new (w.alloc (.cells (p.cells s) 34)) 34 zeroPk
  have hkB : Kept No w ((w.alloc (.cells (p.cells s) 34)).alloc (.cells zeroPk 34)) := ((Kept.refl No w).alloc _).alloc _
  simp only [World.size_alloc] at hB2
  go_enter Tryd.func19, Tryd.ntmps19
  refine wp_seq_k (fun K9 hK9 => ?_)
  have HK := Lib.hid hK9
  clear hK9
  unfold Pk.val
  go_wp2
  refine HK.out _ _ ?_
  clear HK
  change Code.wp _ _ _ _ ((w.alloc (.cells (p.cells s) 34)).alloc (.cells zeroPk 34))
  generalize (w.alloc (.cells (p.cells s) 34)).alloc (.cells zeroPk 34) = wB at *
  have c0 : wB.cell? ⟨w.heap.size, 0, none⟩ = some (.int .i64 12) := (hB1.cell 0).trans (by rw [← hk]; rfl)
  have u := Tryd.underlying34
  go_upto_region 22 with fail
  rename_i K2 hK2
  refine wp_region_lit ?_
  generalize hA0 : ({ tmps := _, defers := [] } : Act) = A0
  have z0 : A0.tmps.size = 90 := by rw [← hA0]; rfl
  have s0 : A0.tmps[1]? = some (.pointer (some ⟨w.heap.size, 0, none⟩)) := by rw [← hA0]; rfl
  have r0 : A0.tmps[2]? = some (.pointer (some ⟨w.heap.size + 1, 0, none⟩)) := by rw [← hA0]; rfl
  have d0 : A0.defers = [] := by rw [← hA0]
  clear hA0
  refine ld_step (n := 87) (K := 0) (T := 3) (N := 90) (B := w.heap.size) (V := .int .i64 12) ⟨rfl, rfl, rfl⟩ ⟨rfl, rfl, rfl⟩ s0 z0 (by omega) (by omega) (pkf0 _ _) (pkl_i64 _ _ _ _ c0) (fun A1 z1 v1 x1 y1 => ?_)
  have s1 := (x1 1 (by omega) (by omega)).trans s0
  have r1 := (x1 2 (by omega) (by omega)).trans r0
  have d1 := y1.trans d0
  refine wpList_do (w' := wB) rfl (v := .agg (Pk.cells { zk 12 with  } ⟨none, 0, none, 0, none, 0, none, 0⟩)) ?_ ?_
  · simp only [execOp, List.map_toArray, List.map_cons, List.map_nil, eval_of v1]
    refine run_value (run_build wB _ _ _ ?_)
    kernel_rfl
  have b9e : (A1.put (some 89) (.agg (Pk.cells { zk 12 with  } ⟨none, 0, none, 0, none, 0, none, 0⟩))).tmps[89]? = some (.agg (Pk.cells { zk 12 with  } ⟨none, 0, none, 0, none, 0, none, 0⟩)) := put_eq (by rw [z1]; omega)
  have r9e : (A1.put (some 89) (.agg (Pk.cells { zk 12 with  } ⟨none, 0, none, 0, none, 0, none, 0⟩))).tmps[2]? = some (.pointer (some ⟨w.heap.size + 1, 0, none⟩)) := by rw [put_ne (by omega)]; exact r1
  have d9e : (A1.put (some 89) (.agg (Pk.cells { zk 12 with  } ⟨none, 0, none, 0, none, 0, none, 0⟩))).defers = [] := d1
  change wpList _ _ _ _ (A1.put (some 89) (.agg (Pk.cells { zk 12 with  } ⟨none, 0, none, 0, none, 0, none, 0⟩))) wB
  generalize A1.put (some 89) (.agg (Pk.cells { zk 12 with  } ⟨none, 0, none, 0, none, 0, none, 0⟩)) = A9 at *
  obtain ⟨w9, hst, b9, k9⟩ := store_agg (P := Tryd.prog) (S := 34) (c := Pk.cells { zk 12 with  } ⟨none, 0, none, 0, none, 0, none, 0⟩) wB hB2 (by kernel_rfl) rfl (pk_one _ _)
  refine wpList_st rfl (w' := w9) ?_ ?_
  · simp only [execOp, eval_of b9e, eval_of r9e]
    exact run_skip hst
  refine wpList_nil ?_
  have e9 := load_agg (P := Tryd.prog) (k := 25) (S := 34) (Pk.cells { zk 12 with  } ⟨none, 0, none, 0, none, 0, none, 0⟩) rfl (w.heap.size + 1) w9 (by go_simp) (by go_simp) (fun i => b9.cell i)
  refine (show K2 A9 w9 from hK2 _ _ ?_)
  refine wp_ret_any ?_
  refine (show bodyPost Tryd.prog Tryd.f19 (fun e w' => e = Ending.returned (.agg (Pk.cells { zk 12 with  } ⟨none, 0, none, 0, none, 0, none, 0⟩)) ∧ Kept No w w') Exit.ret _ _ from ?_)
  exact bodyPost_ret (v := .agg (Pk.cells { zk 12 with  } ⟨none, 0, none, 0, none, 0, none, 0⟩)) (results_cell Tryd.results19 (by simp [Array.getD_eq_getD_getElem?, r9e]) e9) d9e ⟨rfl, hkB.then k9 (fun i hi e => by have : i = w.heap.size + 1 := e; omega)⟩

set_option maxHeartbeats 4000000 in
theorem own_k13 (p : Pk) (s : Sl) (w : World) (hk : p.kind = 13) :
    Calls Tryd.prog 19 #[p.val s] w fun e w' => e = .returned (.agg (Pk.cells { zk 13 with  } ⟨none, 0, none, 0, none, 0, none, 0⟩)) ∧ Kept No w w' := by
  have hB1 := (Blk.new w 34 (p.cells s)).alloc (.cells zeroPk 34)
  have hB2 := Blk.new (w.alloc (.cells (p.cells s) 34)) 34 zeroPk
  have hkB : Kept No w ((w.alloc (.cells (p.cells s) 34)).alloc (.cells zeroPk 34)) := ((Kept.refl No w).alloc _).alloc _
  simp only [World.size_alloc] at hB2
  go_enter Tryd.func19, Tryd.ntmps19
  refine wp_seq_k (fun K9 hK9 => ?_)
  have HK := Lib.hid hK9
  clear hK9
  unfold Pk.val
  go_wp2
  refine HK.out _ _ ?_
  clear HK
  change Code.wp _ _ _ _ ((w.alloc (.cells (p.cells s) 34)).alloc (.cells zeroPk 34))
  generalize (w.alloc (.cells (p.cells s) 34)).alloc (.cells zeroPk 34) = wB at *
  have c0 : wB.cell? ⟨w.heap.size, 0, none⟩ = some (.int .i64 13) := (hB1.cell 0).trans (by rw [← hk]; rfl)
  have u := Tryd.underlying34
  go_upto_region 22 with fail
  rename_i K2 hK2
  refine wp_region_lit ?_
  generalize hA0 : ({ tmps := _, defers := [] } : Act) = A0
  have z0 : A0.tmps.size = 90 := by rw [← hA0]; rfl
  have s0 : A0.tmps[1]? = some (.pointer (some ⟨w.heap.size, 0, none⟩)) := by rw [← hA0]; rfl
  have r0 : A0.tmps[2]? = some (.pointer (some ⟨w.heap.size + 1, 0, none⟩)) := by rw [← hA0]; rfl
  have d0 : A0.defers = [] := by rw [← hA0]
  clear hA0
  refine ld_step (n := 87) (K := 0) (T := 3) (N := 90) (B := w.heap.size) (V := .int .i64 13) ⟨rfl, rfl, rfl⟩ ⟨rfl, rfl, rfl⟩ s0 z0 (by omega) (by omega) (pkf0 _ _) (pkl_i64 _ _ _ _ c0) (fun A1 z1 v1 x1 y1 => ?_)
  have s1 := (x1 1 (by omega) (by omega)).trans s0
  have r1 := (x1 2 (by omega) (by omega)).trans r0
  have d1 := y1.trans d0
  refine wpList_do (w' := wB) rfl (v := .agg (Pk.cells { zk 13 with  } ⟨none, 0, none, 0, none, 0, none, 0⟩)) ?_ ?_
  · simp only [execOp, List.map_toArray, List.map_cons, List.map_nil, eval_of v1]
    refine run_value (run_build wB _ _ _ ?_)
    kernel_rfl
  have b9e : (A1.put (some 89) (.agg (Pk.cells { zk 13 with  } ⟨none, 0, none, 0, none, 0, none, 0⟩))).tmps[89]? = some (.agg (Pk.cells { zk 13 with  } ⟨none, 0, none, 0, none, 0, none, 0⟩)) := put_eq (by rw [z1]; omega)
  have r9e : (A1.put (some 89) (.agg (Pk.cells { zk 13 with  } ⟨none, 0, none, 0, none, 0, none, 0⟩))).tmps[2]? = some (.pointer (some ⟨w.heap.size + 1, 0, none⟩)) := by rw [put_ne (by omega)]; exact r1
  have d9e : (A1.put (some 89) (.agg (Pk.cells { zk 13 with  } ⟨none, 0, none, 0, none, 0, none, 0⟩))).defers = [] := d1
  change wpList _ _ _ _ (A1.put (some 89) (.agg (Pk.cells { zk 13 with  } ⟨none, 0, none, 0, none, 0, none, 0⟩))) wB
  generalize A1.put (some 89) (.agg (Pk.cells { zk 13 with  } ⟨none, 0, none, 0, none, 0, none, 0⟩)) = A9 at *
  obtain ⟨w9, hst, b9, k9⟩ := store_agg (P := Tryd.prog) (S := 34) (c := Pk.cells { zk 13 with  } ⟨none, 0, none, 0, none, 0, none, 0⟩) wB hB2 (by kernel_rfl) rfl (pk_one _ _)
  refine wpList_st rfl (w' := w9) ?_ ?_
  · simp only [execOp, eval_of b9e, eval_of r9e]
    exact run_skip hst
  refine wpList_nil ?_
  have e9 := load_agg (P := Tryd.prog) (k := 25) (S := 34) (Pk.cells { zk 13 with  } ⟨none, 0, none, 0, none, 0, none, 0⟩) rfl (w.heap.size + 1) w9 (by go_simp) (by go_simp) (fun i => b9.cell i)
  refine (show K2 A9 w9 from hK2 _ _ ?_)
  refine wp_ret_any ?_
  refine (show bodyPost Tryd.prog Tryd.f19 (fun e w' => e = Ending.returned (.agg (Pk.cells { zk 13 with  } ⟨none, 0, none, 0, none, 0, none, 0⟩)) ∧ Kept No w w') Exit.ret _ _ from ?_)
  exact bodyPost_ret (v := .agg (Pk.cells { zk 13 with  } ⟨none, 0, none, 0, none, 0, none, 0⟩)) (results_cell Tryd.results19 (by simp [Array.getD_eq_getD_getElem?, r9e]) e9) d9e ⟨rfl, hkB.then k9 (fun i hi e => by have : i = w.heap.size + 1 := e; omega)⟩

set_option maxHeartbeats 4000000 in
theorem own_k14 (p : Pk) (s : Sl) (w : World) (hk : p.kind = 14) :
    Calls Tryd.prog 19 #[p.val s] w fun e w' => e = .returned (.agg (Pk.cells { zk 14 with code := p.code, props := p.props } ⟨none, 0, none, 0, none, 0, s.pa, s.pc⟩)) ∧ Kept No w w' := by
  have hB1 := (Blk.new w 34 (p.cells s)).alloc (.cells zeroPk 34)
  have hB2 := Blk.new (w.alloc (.cells (p.cells s) 34)) 34 zeroPk
  have hkB : Kept No w ((w.alloc (.cells (p.cells s) 34)).alloc (.cells zeroPk 34)) := ((Kept.refl No w).alloc _).alloc _
  simp only [World.size_alloc] at hB2
  go_enter Tryd.func19, Tryd.ntmps19
  refine wp_seq_k (fun K9 hK9 => ?_)
  have HK := Lib.hid hK9
  clear hK9
  unfold Pk.val
  go_wp2
  refine HK.out _ _ ?_
  clear HK
  change Code.wp _ _ _ _ ((w.alloc (.cells (p.cells s) 34)).alloc (.cells zeroPk 34))
  generalize (w.alloc (.cells (p.cells s) 34)).alloc (.cells zeroPk 34) = wB at *
  have c0 : wB.cell? ⟨w.heap.size, 0, none⟩ = some (.int .i64 14) := (hB1.cell 0).trans (by rw [← hk]; rfl)
  have c19 : wB.cell? ⟨w.heap.size, 19, none⟩ = some (.int .u8 p.code) := (hB1.cell 19).trans rfl
  have c24 : wB.cell? ⟨w.heap.size, 24, none⟩ = some (.slice s.pa p.props.length s.pc) := (hB1.cell 24).trans rfl
  have u := Tryd.underlying34
  go_upto_region 21 with fail
  rename_i K2 hK2
  refine wp_region_lit ?_
  generalize hA0 : ({ tmps := _, defers := [] } : Act) = A0
  have z0 : A0.tmps.size = 90 := by rw [← hA0]; rfl
  have s0 : A0.tmps[1]? = some (.pointer (some ⟨w.heap.size, 0, none⟩)) := by rw [← hA0]; rfl
  have r0 : A0.tmps[2]? = some (.pointer (some ⟨w.heap.size + 1, 0, none⟩)) := by rw [← hA0]; rfl
  have d0 : A0.defers = [] := by rw [← hA0]
  clear hA0
  refine ld_step (n := 80) (K := 0) (T := 3) (N := 90) (B := w.heap.size) (V := .int .i64 14) ⟨rfl, rfl, rfl⟩ ⟨rfl, rfl, rfl⟩ s0 z0 (by omega) (by omega) (pkf0 _ _) (pkl_i64 _ _ _ _ c0) (fun A1 z1 v1 x1 y1 => ?_)
  have s1 := (x1 1 (by omega) (by omega)).trans s0
  have r1 := (x1 2 (by omega) (by omega)).trans r0
  have d1 := y1.trans d0
  refine ld_step (n := 82) (K := 19) (T := 5) (N := 90) (B := w.heap.size) (V := .int .u8 p.code) ⟨rfl, rfl, rfl⟩ ⟨rfl, rfl, rfl⟩ s1 z1 (by omega) (by omega) (pkf19 _ _) (pkl_u8 _ _ _ _ c19) (fun A2 z2 v2 x2 y2 => ?_)
  have s2 := (x2 1 (by omega) (by omega)).trans s1
  have r2 := (x2 2 (by omega) (by omega)).trans r1
  have d2 := y2.trans d1
  have v1 := (x2 81 (by omega) (by omega)).trans v1
  refine ld_step (n := 84) (K := 24) (T := 31) (N := 90) (B := w.heap.size) (V := .slice s.pa p.props.length s.pc) ⟨rfl, rfl, rfl⟩ ⟨rfl, rfl, rfl⟩ s2 z2 (by omega) (by omega) (pkf24 _ _) (pkl_sl27 _ _ _ _ c24) (fun A3 z3 v3 x3 y3 => ?_)
  have s3 := (x3 1 (by omega) (by omega)).trans s2
  have r3 := (x3 2 (by omega) (by omega)).trans r2
  have d3 := y3.trans d2
  have v1 := (x3 81 (by omega) (by omega)).trans v1
  have v2 := (x3 83 (by omega) (by omega)).trans v2
  refine wpList_do (w' := wB) rfl (v := .agg (Pk.cells { zk 14 with code := p.code, props := p.props } ⟨none, 0, none, 0, none, 0, s.pa, s.pc⟩)) ?_ ?_
  · simp only [execOp, List.map_toArray, List.map_cons, List.map_nil, eval_of v1, eval_of v2, eval_of v3]
    refine run_value (run_build wB _ _ _ ?_)
    kernel_rfl
  have b9e : (A3.put (some 86) (.agg (Pk.cells { zk 14 with code := p.code, props := p.props } ⟨none, 0, none, 0, none, 0, s.pa, s.pc⟩))).tmps[86]? = some (.agg (Pk.cells { zk 14 with code := p.code, props := p.props } ⟨none, 0, none, 0, none, 0, s.pa, s.pc⟩)) := put_eq (by rw [z3]; omega)
  have r9e : (A3.put (some 86) (.agg (Pk.cells { zk 14 with code := p.code, props := p.props } ⟨none, 0, none, 0, none, 0, s.pa, s.pc⟩))).tmps[2]? = some (.pointer (some ⟨w.heap.size + 1, 0, none⟩)) := by rw [put_ne (by omega)]; exact r3
  have d9e : (A3.put (some 86) (.agg (Pk.cells { zk 14 with code := p.code, props := p.props } ⟨none, 0, none, 0, none, 0, s.pa, s.pc⟩))).defers = [] := d3
  change wpList _ _ _ _ (A3.put (some 86) (.agg (Pk.cells { zk 14 with code := p.code, props := p.props } ⟨none, 0, none, 0, none, 0, s.pa, s.pc⟩))) wB
  generalize A3.put (some 86) (.agg (Pk.cells { zk 14 with code := p.code, props := p.props } ⟨none, 0, none, 0, none, 0, s.pa, s.pc⟩)) = A9 at *
  obtain ⟨w9, hst, b9, k9⟩ := store_agg (P := Tryd.prog) (S := 34) (c := Pk.cells { zk 14 with code := p.code, props := p.props } ⟨none, 0, none, 0, none, 0, s.pa, s.pc⟩) wB hB2 (by kernel_rfl) rfl (pk_one _ _)
  refine wpList_st rfl (w' := w9) ?_ ?_
  · simp only [execOp, eval_of b9e, eval_of r9e]
    exact run_skip hst
  refine wpList_nil ?_
  have e9 := load_agg (P := Tryd.prog) (k := 25) (S := 34) (Pk.cells { zk 14 with code := p.code, props := p.props } ⟨none, 0, none, 0, none, 0, s.pa, s.pc⟩) rfl (w.heap.size + 1) w9 (by go_simp) (by go_simp) (fun i => b9.cell i)
  refine (show K2 A9 w9 from hK2 _ _ ?_)
  refine wp_ret_any ?_
  refine (show bodyPost Tryd.prog Tryd.f19 (fun e w' => e = Ending.returned (.agg (Pk.cells { zk 14 with code := p.code, props := p.props } ⟨none, 0, none, 0, none, 0, s.pa, s.pc⟩)) ∧ Kept No w w') Exit.ret _ _ from ?_)
  exact bodyPost_ret (v := .agg (Pk.cells { zk 14 with code := p.code, props := p.props } ⟨none, 0, none, 0, none, 0, s.pa, s.pc⟩)) (results_cell Tryd.results19 (by simp [Array.getD_eq_getD_getElem?, r9e]) e9) d9e ⟨rfl, hkB.then k9 (fun i hi e => by have : i = w.heap.size + 1 := e; omega)⟩

set_option maxHeartbeats 4000000 in
theorem own_k15 (p : Pk) (s : Sl) (w : World) (hk : p.kind = 15) :
    Calls Tryd.prog 19 #[p.val s] w fun e w' => e = .returned (.agg (Pk.cells { zk 15 with code := p.code, props := p.props } ⟨none, 0, none, 0, none, 0, s.pa, s.pc⟩)) ∧ Kept No w w' := by
  have hB1 := (Blk.new w 34 (p.cells s)).alloc (.cells zeroPk 34)
  have hB2 := Blk.new (w.alloc (.cells (p.cells s) 34)) 34 zeroPk
  have hkB : Kept No w ((w.alloc (.cells (p.cells s) 34)).alloc (.cells zeroPk 34)) := ((Kept.refl No w).alloc _).alloc _
  simp only [World.size_alloc] at hB2
  go_enter Tryd.func19, Tryd.ntmps19
  refine wp_seq_k (fun K9 hK9 => ?_)
  have HK := Lib.hid hK9
  clear hK9
  unfold Pk.val
  go_wp2
  refine HK.out _ _ ?_
  clear HK
  change Code.wp _ _ _ _ ((w.alloc (.cells (p.cells s) 34)).alloc (.cells zeroPk 34))
  generalize (w.alloc (.cells (p.cells s) 34)).alloc (.cells zeroPk 34) = wB at *
  have c0 : wB.cell? ⟨w.heap.size, 0, none⟩ = some (.int .i64 15) := (hB1.cell 0).trans (by rw [← hk]; rfl)
  have c19 : wB.cell? ⟨w.heap.size, 19, none⟩ = some (.int .u8 p.code) := (hB1.cell 19).trans rfl
  have c24 : wB.cell? ⟨w.heap.size, 24, none⟩ = some (.slice s.pa p.props.length s.pc) := (hB1.cell 24).trans rfl
  have u := Tryd.underlying34
  go_upto_region 21 with fail
  rename_i K2 hK2
  refine wp_region_lit ?_
  generalize hA0 : ({ tmps := _, defers := [] } : Act) = A0
  have z0 : A0.tmps.size = 90 := by rw [← hA0]; rfl
  have s0 : A0.tmps[1]? = some (.pointer (some ⟨w.heap.size, 0, none⟩)) := by rw [← hA0]; rfl
  have r0 : A0.tmps[2]? = some (.pointer (some ⟨w.heap.size + 1, 0, none⟩)) := by rw [← hA0]; rfl
  have d0 : A0.defers = [] := by rw [← hA0]
  clear hA0
  refine ld_step (n := 80) (K := 0) (T := 3) (N := 90) (B := w.heap.size) (V := .int .i64 15) ⟨rfl, rfl, rfl⟩ ⟨rfl, rfl, rfl⟩ s0 z0 (by omega) (by omega) (pkf0 _ _) (pkl_i64 _ _ _ _ c0) (fun A1 z1 v1 x1 y1 => ?_)
  have s1 := (x1 1 (by omega) (by omega)).trans s0
  have r1 := (x1 2 (by omega) (by omega)).trans r0
  have d1 := y1.trans d0
  refine ld_step (n := 82) (K := 19) (T := 5) (N := 90) (B := w.heap.size) (V := .int .u8 p.code) ⟨rfl, rfl, rfl⟩ ⟨rfl, rfl, rfl⟩ s1 z1 (by omega) (by omega) (pkf19 _ _) (pkl_u8 _ _ _ _ c19) (fun A2 z2 v2 x2 y2 => ?_)
  have s2 := (x2 1 (by omega) (by omega)).trans s1
  have r2 := (x2 2 (by omega) (by omega)).trans r1
  have d2 := y2.trans d1
  have v1 := (x2 81 (by omega) (by omega)).trans v1
  refine ld_step (n := 84) (K := 24) (T := 31) (N := 90) (B := w.heap.size) (V := .slice s.pa p.props.length s.pc) ⟨rfl, rfl, rfl⟩ ⟨rfl, rfl, rfl⟩ s2 z2 (by omega) (by omega) (pkf24 _ _) (pkl_sl27 _ _ _ _ c24) (fun A3 z3 v3 x3 y3 => ?_)
  have s3 := (x3 1 (by omega) (by omega)).trans s2
  have r3 := (x3 2 (by omega) (by omega)).trans r2
  have d3 := y3.trans d2
  have v1 := (x3 81 (by omega) (by omega)).trans v1
  have v2 := (x3 83 (by omega) (by omega)).trans v2
  refine wpList_do (w' := wB) rfl (v := .agg (Pk.cells { zk 15 with code := p.code, props := p.props } ⟨none, 0, none, 0, none, 0, s.pa, s.pc⟩)) ?_ ?_
  · simp only [execOp, List.map_toArray, List.map_cons, List.map_nil, eval_of v1, eval_of v2, eval_of v3]
    refine run_value (run_build wB _ _ _ ?_)
    kernel_rfl
  have b9e : (A3.put (some 86) (.agg (Pk.cells { zk 15 with code := p.code, props := p.props } ⟨none, 0, none, 0, none, 0, s.pa, s.pc⟩))).tmps[86]? = some (.agg (Pk.cells { zk 15 with code := p.code, props := p.props } ⟨none, 0, none, 0, none, 0, s.pa, s.pc⟩)) := put_eq (by rw [z3]; omega)
  have r9e : (A3.put (some 86) (.agg (Pk.cells { zk 15 with code := p.code, props := p.props } ⟨none, 0, none, 0, none, 0, s.pa, s.pc⟩))).tmps[2]? = some (.pointer (some ⟨w.heap.size + 1, 0, none⟩)) := by rw [put_ne (by omega)]; exact r3
  have d9e : (A3.put (some 86) (.agg (Pk.cells { zk 15 with code := p.code, props := p.props } ⟨none, 0, none, 0, none, 0, s.pa, s.pc⟩))).defers = [] := d3
  change wpList _ _ _ _ (A3.put (some 86) (.agg (Pk.cells { zk 15 with code := p.code, props := p.props } ⟨none, 0, none, 0, none, 0, s.pa, s.pc⟩))) wB
  generalize A3.put (some 86) (.agg (Pk.cells { zk 15 with code := p.code, props := p.props } ⟨none, 0, none, 0, none, 0, s.pa, s.pc⟩)) = A9 at *
  obtain ⟨w9, hst, b9, k9⟩ := store_agg (P := Tryd.prog) (S := 34) (c := Pk.cells { zk 15 with code := p.code, props := p.props } ⟨none, 0, none, 0, none, 0, s.pa, s.pc⟩) wB hB2 (by kernel_rfl) rfl (pk_one _ _)
  refine wpList_st rfl (w' := w9) ?_ ?_
  · simp only [execOp, eval_of b9e, eval_of r9e]
    exact run_skip hst
  refine wpList_nil ?_
  have e9 := load_agg (P := Tryd.prog) (k := 25) (S := 34) (Pk.cells { zk 15 with code := p.code, props := p.props } ⟨none, 0, none, 0, none, 0, s.pa, s.pc⟩) rfl (w.heap.size + 1) w9 (by go_simp) (by go_simp) (fun i => b9.cell i)
  refine (show K2 A9 w9 from hK2 _ _ ?_)
  refine wp_ret_any ?_
  refine (show bodyPost Tryd.prog Tryd.f19 (fun e w' => e = Ending.returned (.agg (Pk.cells { zk 15 with code := p.code, props := p.props } ⟨none, 0, none, 0, none, 0, s.pa, s.pc⟩)) ∧ Kept No w w') Exit.ret _ _ from ?_)
  exact bodyPost_ret (v := .agg (Pk.cells { zk 15 with code := p.code, props := p.props } ⟨none, 0, none, 0, none, 0, s.pa, s.pc⟩)) (results_cell Tryd.results19 (by simp [Array.getD_eq_getD_getElem?, r9e]) e9) d9e ⟨rfl, hkB.then k9 (fun i hi e => by have : i = w.heap.size + 1 := e; omega)⟩


end Go.Proofs.YtjihgcdhheoniaaDoor

/-
  packet.publishRight.
-/
namespace Go.Proofs.YtjihgcdhheoniaaDoor
open Go.RowKit
set_option linter.unusedVariables false
set_option linter.unusedSimpArgs false
set_option maxRecDepth 100000

def publishB (v : Int) (p : Pk) : Bool :=
  if 2 < p.qos ∨ (p.dup = true ∧ p.qos = 0) then false else if decide (p.id = 0) ≠ decide (p.qos = 0) then false
  else if v = 5 ∧ p.topic.size = 0 then (getL p.props 35).isSome else nameB p.topic
set_option maxHeartbeats 4000000 in
theorem publishRight_any (v : Int) (p : Pk) (s : Sl) (w : World) (hp : p.At s w) (hf : p.few) (ht : p.topic.size ≤ 9223372036854775807) (hT : Tabs w) : Calls Tryd.prog 29 #[.int .i64 v, p.val s] w fun e w' => e = .returned (.bool (publishB v p)) ∧ Kept No w w' := by
  have hkB : Kept No w (w.alloc (.cells (p.cells s) 34)) := (Kept.refl No w).alloc _
  have CG := Lib.hid (fun wx (hk : Kept No w wx) => get_any s.pa s.pc p.props 35 wx (hp.hp.keptNo hk) hf.hp)
  have CN := Lib.hid (fun wx (hk : Kept No w wx) => name_any p.topic wx ht (hT.kept hk))
  generalize hR : publishB v p = R
  unfold publishB at hR
  simp only [Pk.val, Pk.cells] at hkB ⊢
  by_cases h1 : 2 < p.qos
  · rw [if_pos (.inl h1)] at hR
    subst hR
    have hI : (2 : Int) < (p.qos : Int) := by omega
    go_enter Tryd.func29, Tryd.ntmps29
    go_wp2
    go_ret
    exact ⟨rfl, (Kept.refl No w).alloc _⟩
  have hI1 : decide ((2 : Int) < (p.qos : Int)) = false := by simp; omega
  by_cases h2 : p.dup = true ∧ p.qos = 0
  · rw [if_pos (.inr h2)] at hR
    subst hR
    obtain ⟨h2a, h2b⟩ := h2
    have hq : ((p.qos : Int) == 0) = true := by rw [h2b]; rfl
    go_enter Tryd.func29, Tryd.ntmps29
    go_wp2
    go_ret
    exact ⟨rfl, (Kept.refl No w).alloc _⟩
  rw [if_neg (by intro h; rcases h with h | h; exact h1 h; exact h2 h)] at hR
  obtain ⟨bi, hbi⟩ : ∃ b, b = decide (p.id = 0) := ⟨_, rfl⟩
  obtain ⟨bq, hbq⟩ : ∃ b, b = decide (p.qos = 0) := ⟨_, rfl⟩
  have ei : ((p.id : Int) == 0) = bi := by rw [hbi, Bool.eq_iff_iff]; simp
  have eq : ((p.qos : Int) == 0) = bq := by rw [hbq, Bool.eq_iff_iff]; simp
  have hd : (p.dup && bq) = false := by
    cases hdd : p.dup with
    | false => rfl
    | true => rw [hbq]; simp; intro h; exact h2 ⟨hdd, h⟩
  rw [← hbi, ← hbq] at hR
  clear hbi hbq h2
  generalize hdg : p.dup = dd at *
  clear hdg
  generalize hpt : p.topic = tp at *
  clear hpt
  have CB := Lib.hid (show ∀ wx, Kept No (w.alloc (.cells #[.int .i64 p.kind, .bool dd, .bool p.retain, .int .u8 p.qos, .int .u16 p.id, .bool p.clean, .int .u16 p.keep, .string p.client, .bool p.hasWill, .bool p.hasUser, .bool p.hasPass, .int .u8 p.willQoS, .bool p.willRetain, .slice s.wa p.willProps.length s.wc, .string p.willTopic, .string p.willLoad, .string p.user, .string p.pass, .bool p.present, .int .u8 p.code, .string tp, .string p.load, .slice s.fa p.filters.length s.fc, .slice s.ca p.codes.length s.cc, .slice s.pa p.props.length s.pc] 34)) wx → Kept No w wx from fun wx hk => ((Kept.refl No w).alloc _).trans hk)
  clear CB
  cases dd with
  | false =>
    cases bq with
    | false =>
      cases bi with
      | false =>
        rw [if_neg (by simp)] at hR
        by_cases h5 : v = 5
        · have hv : (v == 5) = true := by simp [h5]
          by_cases hz : tp.size = 0
          · obtain rfl := empty_of hz
            rw [if_pos ⟨h5, hz⟩] at hR
            clear h5
            generalize hG : getL p.props 35 = G at *
            clear hG
            subst hR
            go_enter Tryd.func29, Tryd.ntmps29
            go_wp2_with fail
            go_at_call 32
            refine (CG.out _ hkB).mono ?_
            rintro e w1 ⟨rfl, hk1⟩
            unfold getV
            generalize (G.getD Pr.zero) = gp
            obtain ⟨gi, gn, ga, gb⟩ := gp
            simp only [Pr.val]
            go_wp2
            go_ret
            exact ⟨rfl, (hkB.trans hk1).alloc _⟩
          · have hE := isEmpty_of (s := tp) (by omega)
            rw [if_neg (fun h => hz h.2)] at hR
            subst hR
            clear h5 hz
            go_enter Tryd.func29, Tryd.ntmps29
            go_wp2_with fail
            go_at_call 45
            refine (CN.out _ hkB).mono ?_
            rintro e w1 ⟨rfl, hk1⟩
            go_wp2
            go_ret
            exact ⟨rfl, hkB.trans hk1⟩
        · have hv : (v == 5) = false := by simpa using h5
          rw [if_neg (fun h => h5 h.1)] at hR
          subst hR
          clear h5
          go_enter Tryd.func29, Tryd.ntmps29
          go_wp2_with fail
          go_at_call 45
          refine (CN.out _ hkB).mono ?_
          rintro e w1 ⟨rfl, hk1⟩
          go_wp2
          go_ret
          exact ⟨rfl, hkB.trans hk1⟩
      | true =>
        rw [if_pos (by simp)] at hR
        subst hR
        go_enter Tryd.func29, Tryd.ntmps29
        go_wp2
        go_ret
        exact ⟨rfl, (Kept.refl No w).alloc _⟩
    | true =>
      cases bi with
      | false =>
        rw [if_pos (by simp)] at hR
        subst hR
        go_enter Tryd.func29, Tryd.ntmps29
        go_wp2
        go_ret
        exact ⟨rfl, (Kept.refl No w).alloc _⟩
      | true =>
        rw [if_neg (by simp)] at hR
        by_cases h5 : v = 5
        · have hv : (v == 5) = true := by simp [h5]
          by_cases hz : tp.size = 0
          · obtain rfl := empty_of hz
            rw [if_pos ⟨h5, hz⟩] at hR
            clear h5
            generalize hG : getL p.props 35 = G at *
            clear hG
            subst hR
            go_enter Tryd.func29, Tryd.ntmps29
            go_wp2_with fail
            go_at_call 32
            refine (CG.out _ hkB).mono ?_
            rintro e w1 ⟨rfl, hk1⟩
            unfold getV
            generalize (G.getD Pr.zero) = gp
            obtain ⟨gi, gn, ga, gb⟩ := gp
            simp only [Pr.val]
            go_wp2
            go_ret
            exact ⟨rfl, (hkB.trans hk1).alloc _⟩
          · have hE := isEmpty_of (s := tp) (by omega)
            rw [if_neg (fun h => hz h.2)] at hR
            subst hR
            clear h5 hz
            go_enter Tryd.func29, Tryd.ntmps29
            go_wp2_with fail
            go_at_call 45
            refine (CN.out _ hkB).mono ?_
            rintro e w1 ⟨rfl, hk1⟩
            go_wp2
            go_ret
            exact ⟨rfl, hkB.trans hk1⟩
        · have hv : (v == 5) = false := by simpa using h5
          rw [if_neg (fun h => h5 h.1)] at hR
          subst hR
          clear h5
          go_enter Tryd.func29, Tryd.ntmps29
          go_wp2_with fail
          go_at_call 45
          refine (CN.out _ hkB).mono ?_
          rintro e w1 ⟨rfl, hk1⟩
          go_wp2
          go_ret
          exact ⟨rfl, hkB.trans hk1⟩
  | true =>
    cases bq with
    | false =>
      cases bi with
      | false =>
        rw [if_neg (by simp)] at hR
        by_cases h5 : v = 5
        · have hv : (v == 5) = true := by simp [h5]
          by_cases hz : tp.size = 0
          · obtain rfl := empty_of hz
            rw [if_pos ⟨h5, hz⟩] at hR
            clear h5
            generalize hG : getL p.props 35 = G at *
            clear hG
            subst hR
            go_enter Tryd.func29, Tryd.ntmps29
            go_wp2_with fail
            go_at_call 32
            refine (CG.out _ hkB).mono ?_
            rintro e w1 ⟨rfl, hk1⟩
            unfold getV
            generalize (G.getD Pr.zero) = gp
            obtain ⟨gi, gn, ga, gb⟩ := gp
            simp only [Pr.val]
            go_wp2
            go_ret
            exact ⟨rfl, (hkB.trans hk1).alloc _⟩
          · have hE := isEmpty_of (s := tp) (by omega)
            rw [if_neg (fun h => hz h.2)] at hR
            subst hR
            clear h5 hz
            go_enter Tryd.func29, Tryd.ntmps29
            go_wp2_with fail
            go_at_call 45
            refine (CN.out _ hkB).mono ?_
            rintro e w1 ⟨rfl, hk1⟩
            go_wp2
            go_ret
            exact ⟨rfl, hkB.trans hk1⟩
        · have hv : (v == 5) = false := by simpa using h5
          rw [if_neg (fun h => h5 h.1)] at hR
          subst hR
          clear h5
          go_enter Tryd.func29, Tryd.ntmps29
          go_wp2_with fail
          go_at_call 45
          refine (CN.out _ hkB).mono ?_
          rintro e w1 ⟨rfl, hk1⟩
          go_wp2
          go_ret
          exact ⟨rfl, hkB.trans hk1⟩
      | true =>
        rw [if_pos (by simp)] at hR
        subst hR
        go_enter Tryd.func29, Tryd.ntmps29
        go_wp2
        go_ret
        exact ⟨rfl, (Kept.refl No w).alloc _⟩
    | true =>
      simp at hd

end Go.Proofs.YtjihgcdhheoniaaDoor

/-
  packet.fieldsRight at a Publish.
-/
namespace Go.Proofs.YtjihgcdhheoniaaDoor
open Go.RowKit
set_option linter.unusedVariables false
set_option linter.unusedSimpArgs false
set_option maxRecDepth 100000

section
variable {P : Program} {ops : Array Oper} {Q : Exit → Act → World → Prop} {a : Act} {w : World} {rest : List Oper} {o : Oper}
theorem wpList_callN {R : Value → World → Prop} {f : Nat} {args : Array Value} (hg : o.guard = none) (h : (execOp a.eval o).run P w = .ok (.enter f args) w)
    (hc : Calls P f args w fun e w' => ∃ v, e = .returned v ∧ R v w') (k : ∀ v w', R v w' → wpList P ops Q rest (a.put o.dst v) w') : wpList P ops Q (o :: rest) a w := by
  unfold wpList
  rw [if_pos (by simp [Region.wanted, hg])]
  left
  unfold Oper.wp
  rw [h]
  refine hc.mono ?_
  rintro e w' ⟨v, rfl, hR⟩
  exact k v w' hR
/-- 'f(version, p)': the number, the box whole, the call. -/
theorem vcall_step {N S n B f : Nat} {vv V : Value} {R : Value → World → Prop} {o1 o2 o3 : Oper} {ats : Array TypeId} (h1 : o1.op = .move (.tmp 0) ∧ o1.dst = some n ∧ o1.guard = none) (h2 : o2.op = .load S (.tmp 3) ∧ o2.dst = some (n + 1) ∧ o2.guard = none)
    (h3 : o3.op = .call { callee := .value (.func f), args := #[.tmp n, .tmp (n + 1)], argTypes := ats } ∧ o3.dst = some (n + 2) ∧ o3.guard = none)
    (ht0 : a.tmps[0]? = some vv) (ht3 : a.tmps[3]? = some (.pointer (some ⟨B, 0, none⟩))) (hs : a.tmps.size = N) (hn : 3 < n) (hN : n + 2 < N) (l1 : (Instr.loadAt S (.pointer (some ⟨B, 0, none⟩))).run P w = .ok V w)
    (eg : ∀ args w, (callFunc f args).run P w = .ok (.enter f args) w) (hc : Calls P f #[vv, V] w fun e w' => ∃ r, e = .returned r ∧ R r w')
    (k : ∀ a' r w', R r w' → a'.tmps.size = N → a'.tmps[n + 2]? = some r → (∀ i, i ≠ n → i ≠ n + 1 → i ≠ n + 2 → a'.tmps[i]? = a.tmps[i]?) → a'.defers = a.defers → wpList P ops Q rest a' w') : wpList P ops Q (o1 :: o2 :: o3 :: rest) a w := by
  refine wpList_do (w' := w) h1.2.2 (v := vv) ?_ ?_
  · simp [execOp, h1.1, eval_of ht0]
  rw [h1.2.1]
  have q3 : (a.put (some n) vv).tmps[3]? = some (.pointer (some ⟨B, 0, none⟩)) := by rw [put_ne (by omega), ht3]
  refine wpList_do (w' := w) h2.2.2 (v := V) ?_ ?_
  · simp only [execOp, h2.1, eval_of q3]
    exact run_value l1
  rw [h2.2.1]
  have m1 : ((a.put (some n) vv).put (some (n + 1)) V).tmps[n]? = some vv := by rw [put_ne (by omega)]; exact put_eq (by omega)
  have m2 : ((a.put (some n) vv).put (some (n + 1)) V).tmps[n + 1]? = some V := put_eq (by rw [put_size]; omega)
  refine wpList_callN (R := R) h3.2.2 (f := f) (args := #[vv, V]) ?_ hc (fun r w' hR => ?_)
  · have v1 := eval_of m1
    have v2 := eval_of m2
    generalize ((a.put (some n) vv).put (some (n + 1)) V) = A at *
    simp [execOp, h3.1, resolve, invoke, go_sem, Act.eval, eg, m1, m2]
  rw [h3.2.1]
  refine k _ r w' hR ?_ ?_ (fun i hi hj hl => ?_) rfl
  · simp only [put_size, hs]
  · exact put_eq (by simp only [put_size]; omega)
  · rw [put_ne (Ne.symm hl), put_ne (Ne.symm hj), put_ne (Ne.symm hi)]
end
set_option maxHeartbeats 4000000 in
theorem fieldsRight_k3 (v : Int) (p : Pk) (s : Sl) (w : World) (hk : p.kind = 3) (hp : p.At s w) (hf : p.few) (ht : p.topic.size ≤ 9223372036854775807) (hT : Tabs w) :
    Calls Tryd.prog 21 #[.int .i64 v, p.val s] w fun e w' => e = .returned (.bool (publishB v p)) ∧ Kept No w w' := by
  have hB1 := Blk.new w 34 (p.cells s)
  have hkB : Kept No w (w.alloc (.cells (p.cells s) 34)) := (Kept.refl No w).alloc _
  go_enter Tryd.func21, Tryd.ntmps21
  refine wp_seq_k (fun K9 hK9 => ?_)
  have HK := Lib.hid hK9
  clear hK9
  unfold Pk.val
  go_wp2
  refine HK.out _ _ ?_
  clear HK
  change Code.wp _ _ _ _ (w.alloc (.cells (p.cells s) 34))
  generalize w.alloc (.cells (p.cells s) 34) = wB at *
  have c0 : wB.cell? ⟨w.heap.size, 0, none⟩ = some (.int .i64 3) := (hB1.cell 0).trans (by rw [← hk]; rfl)
  go_upto_region 7 with fail
  rename_i K2 hK2
  refine wp_region_lit ?_
  generalize hA0 : ({ tmps := _, defers := [] } : Act) = A0
  have z0 : A0.tmps.size = 88 := by rw [← hA0]; rfl
  have s0 : A0.tmps[0]? = some (.int .i64 v) := by rw [← hA0]; rfl
  have r0 : A0.tmps[3]? = some (.pointer (some ⟨w.heap.size, 0, none⟩)) := by rw [← hA0]; rfl
  have d0 : A0.defers = [] := by rw [← hA0]
  clear hA0
  refine vcall_step (n := 31) (S := 34) (R := fun r w' => r = .bool (publishB v p) ∧ Kept No wB w') ⟨rfl, rfl, rfl⟩ ⟨rfl, rfl, rfl⟩ ⟨rfl, rfl, rfl⟩ s0 r0 z0 (by omega) (by omega) (pkl_whole w.heap.size p s wB (fun i => hB1.cell i)) (enters_of Tryd.func29 (by kernel_rfl) rfl)
    ((publishRight_any v p s wB (hp.kept hkB) hf ht (hT.kept hkB)).mono fun e w' h => ⟨_, h.1, rfl, h.2⟩) (fun A1 r w1 hr z1 v1 x1 y1 => ?_)
  obtain ⟨rfl, hk1⟩ := hr
  refine wpList_do (w' := w1) rfl (v := .bool (publishB v p)) (by simp [execOp, eval_of v1]) ?_
  have b4 : (A1.put (some 4) (.bool (publishB v p))).tmps[4]? = some (.bool (publishB v p)) := put_eq (by rw [z1]; omega)
  refine wpList_nil ?_
  refine (show K2 (A1.put (some 4) (.bool (publishB v p))) w1 from hK2 _ _ ?_)
  refine wp_ret_any ?_
  refine (show bodyPost Tryd.prog Tryd.f21 (fun e w' => e = Ending.returned (.bool (publishB v p)) ∧ Kept No w w') Exit.ret _ _ from ?_)
  refine bodyPost_ret (v := .bool (publishB v p)) ?_ (y1.trans d0) ⟨rfl, hkB.trans hk1⟩
  rw [results_tmp rfl]
  simp [Array.getD_eq_getD_getElem?, b4]
end Go.Proofs.YtjihgcdhheoniaaDoor

/-
  packet.Rest at a Publish: made by mkpkw.py.
-/
namespace Go.Proofs.YtjihgcdhheoniaaDoor
open Go.RowKit
set_option linter.unusedVariables false
set_option linter.unusedSimpArgs false
set_option maxRecDepth 100000

theorem lenGo_le : ∀ (L : List Pr) (m n : Nat), lenGo L m = some n → m ≤ 268435455 → n ≤ 268435455 := by
  intro L
  induction L with
  | nil => intro m n h hm; simp [lenGo] at h; omega
  | cons p L ih =>
    intro m n h hm
    simp only [lenGo] at h
    split at h
    · split at h
      · exact ih _ _ h (by omega)
      · cases h
    · cases h
theorem secN_le (v : Int) (L : List Pr) : secN v L ≤ 268435459 := by
  unfold secN sizeR
  split
  · omega
  · split
    · rename_i n h
      have := lenGo_le L 0 n h (by omega)
      have h4 := varL_le n
      omega
    · omega
set_option maxHeartbeats 4000000 in
theorem rest_k3 (v : Int) (p : Pk) (s : Sl) (w : World) (hk : p.kind = 3) (hp : p.At s w) (hf : p.few) (hw : Wf p) (ht : p.topic.size ≤ 140737488351232) (hld : p.load.size ≤ 140737488351232) (hT : Tabs w) :
    Calls Tryd.prog 22 #[.int .i64 v, p.val s] w fun e w' => e = .returned (.int .i64 ((2 + p.topic.size + (if p.qos = 0 then 0 else 2) + secN v p.props + p.load.size : Nat) : Int)) ∧ Kept No w w' := by
  obtain ⟨nz, hnz⟩ : ∃ nz : Int, nz = if p.qos = 0 then 0 else 2 := ⟨_, rfl⟩
  have hn2 : 0 ≤ nz ∧ nz ≤ 2 := by rw [hnz]; split <;> omega
  have hsec : secN v p.props ≤ 268435459 := secN_le v p.props
  have hsum : ((2 + p.topic.size + (if p.qos = 0 then 0 else 2) + secN v p.props + p.load.size : Nat) : Int) = 2 + p.topic.size + nz + secN v p.props + p.load.size := by
    rw [hnz]
    split <;> push_cast <;> omega
  rw [hsum]
  clear hsum
  have HNZ := Lib.hid hnz
  clear hnz
  have hB1 := Blk.new w 34 (p.cells s)
  have hkB : Kept No w (w.alloc (.cells (p.cells s) 34)) := (Kept.refl No w).alloc _
  go_enter Tryd.func22, Tryd.ntmps22
  refine wp_seq_k (fun K9 hK9 => ?_)
  have HK := Lib.hid hK9
  clear hK9
  unfold Pk.val
  go_wp2
  refine HK.out _ _ ?_
  clear HK
  change Code.wp _ _ _ _ (w.alloc (.cells (p.cells s) 34))
  generalize w.alloc (.cells (p.cells s) 34) = wB at *
  have c0 : wB.cell? ⟨w.heap.size, 0, none⟩ = some (.int .i64 3) := (hB1.cell 0).trans (by rw [← hk]; rfl)
  have CB := Lib.hid (fun wx (hk : Kept No wB wx) (i : Nat) => (hB1.kept hk (fun f => f)).cell i)
  clear hB1
  have HSEC := Lib.hid (fun wx (hk : Kept No wB wx) => section_any v s.pa s.pc p.props wx (hp.kept (hkB.trans hk)).hp hf.hp hw.p (hT.kept (hkB.trans hk)))
  generalize hsn : secN v p.props = sn at *
  clear hsn
  have W1 : IntKind.i64.wrap (2 + (p.topic.size : Int) + nz) = 2 + p.topic.size + nz := by rw [IntKind.wrap_i64]; omega
  have W2 : IntKind.i64.wrap (2 + (p.topic.size : Int) + nz + sn) = 2 + p.topic.size + nz + sn := by rw [IntKind.wrap_i64]; omega
  have W3 : IntKind.i64.wrap (2 + (p.topic.size : Int) + nz + sn + p.load.size) = 2 + p.topic.size + nz + sn + p.load.size := by rw [IntKind.wrap_i64]; omega
  go_upto_region 7 with fail
  refine wp_region_held_drew (S := (fun wx => Kept No wB wx)) (by kernel_rfl) ?_ (fun hHeld => ?_)
  · exact (Kept.refl No wB).drew
  generalize wB.drew = W0 at *
  refine wpAnyH_take (i := 0) (v := (.pointer (some ⟨w.heap.size, 20, none⟩))) rfl (by kernel_rfl) (by kernel_rfl) (by kernel_rfl) (fun _ _ _ h => h) (Or.inl ⟨by rfl, ?hhr0⟩) (by assumption) ?rrr0
  case hhr0 => (intro wz9 hSw; go_simp; try with_reducible rfl)
  go_simp
  refine wpAnyH_take (i := 1) (v := (.string p.topic)) rfl (by kernel_rfl) (by kernel_rfl) (by kernel_rfl) (fun _ _ _ h => h) (Or.inl ⟨by rfl, ?hhr1⟩) (by assumption) ?rrr1
  case hhr1 => (intro wz9 hSw; have hc : wz9.cell? ⟨w.heap.size, 20, none⟩ = some (.string p.topic) := (CB.out wz9 hSw 20).trans rfl; go_simp; try with_reducible rfl)
  go_simp
  refine wpAnyH_take (i := 3) (v := (p.val s)) rfl (by kernel_rfl) (by kernel_rfl) (by kernel_rfl) (fun _ _ _ h => h) (Or.inl ⟨by rfl, ?hhr3⟩) (by assumption) ?rrr3
  case hhr3 => (intro wz9 hSw; exact run_value (pkl_whole w.heap.size p s wz9 (fun i => CB.out wz9 hSw i)))
  go_simp
  refine wpAnyH_take (i := 6) (v := (.int .i64 v)) rfl (by kernel_rfl) (by kernel_rfl) (by kernel_rfl) (fun _ _ _ h => h) (Or.inl ⟨by rfl, ?hhr6⟩) (by assumption) ?rrr6
  case hhr6 => (intro wz9 hSw; go_simp; try with_reducible rfl)
  go_simp
  refine wpAnyH_take (i := 7) (v := (.pointer (some ⟨w.heap.size, 24, none⟩))) rfl (by kernel_rfl) (by kernel_rfl) (by kernel_rfl) (fun _ _ _ h => h) (Or.inl ⟨by rfl, ?hhr7⟩) (by assumption) ?rrr7
  case hhr7 => (intro wz9 hSw; go_simp; try with_reducible rfl)
  go_simp
  refine wpAnyH_take (i := 8) (v := (.slice s.pa p.props.length s.pc)) rfl (by kernel_rfl) (by kernel_rfl) (by kernel_rfl) (fun _ _ _ h => h) (Or.inl ⟨by rfl, ?hhr8⟩) (by assumption) ?rrr8
  case hhr8 => (intro wz9 hSw; have hc : wz9.cell? ⟨w.heap.size, 24, none⟩ = some (.slice s.pa p.props.length s.pc) := (CB.out wz9 hSw 24).trans rfl; go_simp; try with_reducible rfl)
  go_simp
  refine wpAnyH_take (i := 11) (v := (.pointer (some ⟨w.heap.size, 21, none⟩))) rfl (by kernel_rfl) (by kernel_rfl) (by kernel_rfl) (fun _ _ _ h => h) (Or.inl ⟨by rfl, ?hhr11⟩) (by assumption) ?rrr11
  case hhr11 => (intro wz9 hSw; go_simp; try with_reducible rfl)
  go_simp
  refine wpAnyH_take (i := 12) (v := (.string p.load)) rfl (by kernel_rfl) (by kernel_rfl) (by kernel_rfl) (fun _ _ _ h => h) (Or.inl ⟨by rfl, ?hhr12⟩) (by assumption) ?rrr12
  case hhr12 => (intro wz9 hSw; have hc : wz9.cell? ⟨w.heap.size, 21, none⟩ = some (.string p.load) := (CB.out wz9 hSw 21).trans rfl; go_simp; try with_reducible rfl)
  go_simp
  refine wpAnyH_take (i := 13) (v := (.int .i64 p.load.size)) rfl (by kernel_rfl) (by kernel_rfl) (by kernel_rfl) (fun _ _ _ h => h) (Or.inl ⟨by rfl, ?hhr13⟩) (by assumption) ?rrr13
  case hhr13 => (intro wz9 hSw; go_simp; try with_reducible rfl)
  go_simp
  refine wpAnyH_ready (rs := [2]) (by kernel_rfl) (by simp) ?_
  refine AllReadyH.cons rfl (fun K9 hK9 => ?_) AllReadyH.nil
  go_simp
  go_wp2_with (go_at_call 35; refine (pbin_any p.topic _ (by omega)).mono ?_; rintro e w1 ⟨rfl, k1⟩)
  refine hK9.out _ _ ?_ (fun hHeld2 => ?_)
  · exact hHeld.trans k1
  clear hK9 K9 hHeld
  have hHeld := hHeld2
  clear hHeld2
  go_simp
  refine wpAnyH_ready (rs := [4]) (by kernel_rfl) (by simp) ?_
  refine AllReadyH.cons rfl (fun K9 hK9 => ?_) AllReadyH.nil
  go_simp
  go_wp2_with (go_at_call 36; refine (numsz_any p s _ nz HNZ.out).mono ?_; rintro e w2 ⟨rfl, k2⟩)
  refine hK9.out _ _ ?_ (fun hHeld2 => ?_)
  · exact hHeld.trans k2
  clear hK9 K9 hHeld
  have hHeld := hHeld2
  clear hHeld2
  go_simp
  refine wpAnyH_take (i := 5) (v := ?vvr5) rfl (by kernel_rfl) (by kernel_rfl) (by kernel_rfl) (fun _ _ _ h => h) (Or.inl ⟨by rfl, ?hhr5⟩) (by assumption) ?rrr5
  case hhr5 => (intro wz9 hSw; go_simp; try with_reducible rfl)
  go_simp
  refine wpAnyH_ready (rs := [9]) (by kernel_rfl) (by simp) ?_
  refine AllReadyH.cons rfl (fun K9 hK9 => ?_) AllReadyH.nil
  go_simp
  go_wp2_with (go_at_call 34; refine (HSEC.out _ hHeld).mono ?_; rintro e w3 ⟨rfl, k3⟩)
  refine hK9.out _ _ ?_ (fun hHeld2 => ?_)
  · exact hHeld.trans k3
  clear hK9 K9 hHeld
  have hHeld := hHeld2
  clear hHeld2
  go_simp
  refine wpAnyH_take (i := 10) (v := ?vvr10) rfl (by kernel_rfl) (by kernel_rfl) (by kernel_rfl) (fun _ _ _ h => h) (Or.inl ⟨by rfl, ?hhr10⟩) (by assumption) ?rrr10
  case hhr10 => (intro wz9 hSw; go_simp; try with_reducible rfl)
  go_simp
  refine wpAnyH_take (i := 14) (v := ?vvr14) rfl (by kernel_rfl) (by kernel_rfl) (by kernel_rfl) (fun _ _ _ h => h) (Or.inl ⟨by rfl, ?hhr14⟩) (by assumption) ?rrr14
  case hhr14 => (intro wz9 hSw; go_simp; try with_reducible rfl)
  go_simp
  refine wpAnyH_take (i := 15) (v := ?vvr15) rfl (by kernel_rfl) (by kernel_rfl) (by kernel_rfl) (fun _ _ _ h => h) (Or.inl ⟨by rfl, ?hhr15⟩) (by assumption) ?rrr15
  case hhr15 => (intro wz9 hSw; go_simp; try with_reducible rfl)
  go_simp
  refine wpAnyH_done (by kernel_rfl) ?_ _
  go_wp2
  go_ret
  refine ⟨?_, hkB.trans hHeld⟩
  rfl
end Go.Proofs.YtjihgcdhheoniaaDoor

/-
  packet.Right at a Publish: made by mkpkz.py.
-/
namespace Go.Proofs.YtjihgcdhheoniaaDoor
open Go.RowKit
set_option linter.unusedVariables false
set_option linter.unusedSimpArgs false
set_option maxRecDepth 100000

set_option maxHeartbeats 8000000 in
theorem right3_no (v : Int) (p : Pk) (s : Sl) (w : World) (hk : p.kind = 3) (hp : p.At s w) (hf : p.few) (hw : Wf p) (hb : { zk 3 with dup := p.dup, qos := p.qos, retain := p.retain, topic := p.topic, id := p.id, props := p.props, load := p.load } = p) (ht : p.topic.size ≤ 140737488351232) (hld : p.load.size ≤ 140737488351232) (hT : Tabs w)
    (hE : existsB v 3 = false) :
    Calls Tryd.prog 11 #[.int .i64 v, p.val s] w fun e w' => e = .returned (.bool false) ∧ Kept No w w' := by
  have HE : Hid (∀ wx, Calls Tryd.prog 18 #[.int .i64 v, .int .i64 3] wx fun e w' => e = .returned (.bool false) ∧ wx = w') := Lib.hid (fun wx => by have := exists_any v 3 wx; rw [hE] at this; exact this)
  have hB1 := Blk.new w 34 (p.cells s)
  have hkB : Kept No w (w.alloc (.cells (p.cells s) 34)) := (Kept.refl No w).alloc _
  go_enter Tryd.func11, Tryd.ntmps11
  refine wp_seq_k (fun K9 hK9 => ?_)
  have HK := Lib.hid hK9
  clear hK9
  have HV : Hid (p.val s = .agg (p.cells s)) := Lib.hid rfl
  rw [HV.out]
  go_wp2
  refine HK.out _ _ ?_
  clear HK
  change Code.wp _ _ _ _ (w.alloc (.cells (p.cells s) 34))
  generalize w.alloc (.cells (p.cells s) 34) = wB at *
  have CB := Lib.hid (fun wx (hk : Kept No wB wx) (i : Nat) => (hB1.kept hk (fun f => f)).cell i)
  clear hB1
  refine wp_seq ?_
  refine wp_region_held_drew (S := (fun wx => Kept No wB wx)) (by kernel_rfl) ?_ (fun hHeld => ?_)
  · exact (Kept.refl No wB).drew
  generalize wB.drew = W0 at *
  refine wpAnyH_take (i := 0) (v := (.int .i64 v)) rfl (by kernel_rfl) (by kernel_rfl) (by kernel_rfl) (fun _ _ _ h => h) (Or.inl ⟨by rfl, ?hhno0⟩) (by assumption) ?rrno0
  case hhno0 => (intro wz9 hSw; go_simp; try with_reducible rfl)
  go_simp
  refine wpAnyH_take (i := 1) (v := (.pointer (some ⟨w.heap.size, 0, none⟩))) rfl (by kernel_rfl) (by kernel_rfl) (by kernel_rfl) (fun _ _ _ h => h) (Or.inl ⟨by rfl, ?hhno1⟩) (by assumption) ?rrno1
  case hhno1 => (intro wz9 hSw; go_simp; try with_reducible rfl)
  go_simp
  refine wpAnyH_take (i := 2) (v := (.int .i64 3)) rfl (by kernel_rfl) (by kernel_rfl) (by kernel_rfl) (fun _ _ _ h => h) (Or.inl ⟨by rfl, ?hhno2⟩) (by assumption) ?rrno2
  case hhno2 => (intro wz9 hSw; have hc : wz9.cell? ⟨w.heap.size, 0, none⟩ = some (.int .i64 3) := (CB.out wz9 hSw 0).trans (by rw [← hk]; rfl); go_simp; try with_reducible rfl)
  go_simp
  refine wpAnyH_ready (rs := [3]) (by kernel_rfl) (by simp) ?_
  refine AllReadyH.cons rfl (fun K9 hK9 => ?_) AllReadyH.nil
  go_simp
  go_wp2_with (go_at_call 18; refine (HE.out _).mono ?_; rintro e w1 ⟨rfl, rfl⟩)
  refine hK9.out _ _ ?_ (fun hHeld2 => ?_)
  · exact hHeld.trans (Kept.refl _ _)
  clear hK9 K9 hHeld
  have hHeld := hHeld2
  clear hHeld2
  go_simp
  refine wpAnyH_take (i := 4) (v := (.bool false)) rfl (by kernel_rfl) (by kernel_rfl) (by kernel_rfl) (fun _ _ _ h => h) (Or.inl ⟨by rfl, ?hhno4⟩) (by assumption) ?rrno4
  case hhno4 => (intro wz9 hSw; go_simp; try with_reducible rfl)
  go_simp
  refine wpAnyH_take (i := 5) (v := undef) rfl (by kernel_rfl) (by kernel_rfl) (by kernel_rfl) (fun _ _ _ h => h) (Or.inr ⟨by rfl, rfl⟩) (by assumption) ?_
  go_simp
  refine wpAnyH_take (i := 6) (v := undef) rfl (by kernel_rfl) (by kernel_rfl) (by kernel_rfl) (fun _ _ _ h => h) (Or.inr ⟨by rfl, rfl⟩) (by assumption) ?_
  go_simp
  refine wpAnyH_take (i := 7) (v := undef) rfl (by kernel_rfl) (by kernel_rfl) (by kernel_rfl) (fun _ _ _ h => h) (Or.inr ⟨by rfl, rfl⟩) (by assumption) ?_
  go_simp
  refine wpAnyH_take (i := 8) (v := undef) rfl (by kernel_rfl) (by kernel_rfl) (by kernel_rfl) (fun _ _ _ h => h) (Or.inr ⟨by rfl, rfl⟩) (by assumption) ?_
  go_simp
  refine wpAnyH_take (i := 9) (v := (.bool false)) rfl (by kernel_rfl) (by kernel_rfl) (by kernel_rfl) (fun _ _ _ h => h) (Or.inl ⟨by rfl, ?hhno9⟩) (by assumption) ?rrno9
  case hhno9 => (intro wz9 hSw; go_simp; try with_reducible rfl)
  go_simp
  refine wpAnyH_take (i := 10) (v := (.bool false)) rfl (by kernel_rfl) (by kernel_rfl) (by kernel_rfl) (fun _ _ _ h => h) (Or.inl ⟨by rfl, ?hhno10⟩) (by assumption) ?rrno10
  case hhno10 => (intro wz9 hSw; go_simp; try with_reducible rfl)
  go_simp
  refine wpAnyH_take (i := 11) (v := undef) rfl (by kernel_rfl) (by kernel_rfl) (by kernel_rfl) (fun _ _ _ h => h) (Or.inr ⟨by rfl, rfl⟩) (by assumption) ?_
  go_simp
  refine wpAnyH_take (i := 12) (v := undef) rfl (by kernel_rfl) (by kernel_rfl) (by kernel_rfl) (fun _ _ _ h => h) (Or.inr ⟨by rfl, rfl⟩) (by assumption) ?_
  go_simp
  refine wpAnyH_take (i := 13) (v := undef) rfl (by kernel_rfl) (by kernel_rfl) (by kernel_rfl) (fun _ _ _ h => h) (Or.inr ⟨by rfl, rfl⟩) (by assumption) ?_
  go_simp
  refine wpAnyH_take (i := 14) (v := (.bool false)) rfl (by kernel_rfl) (by kernel_rfl) (by kernel_rfl) (fun _ _ _ h => h) (Or.inl ⟨by rfl, ?hhno14⟩) (by assumption) ?rrno14
  case hhno14 => (intro wz9 hSw; go_simp; try with_reducible rfl)
  go_simp
  refine wpAnyH_take (i := 15) (v := (.bool false)) rfl (by kernel_rfl) (by kernel_rfl) (by kernel_rfl) (fun _ _ _ h => h) (Or.inl ⟨by rfl, ?hhno15⟩) (by assumption) ?rrno15
  case hhno15 => (intro wz9 hSw; go_simp; try with_reducible rfl)
  go_simp
  refine wpAnyH_take (i := 16) (v := undef) rfl (by kernel_rfl) (by kernel_rfl) (by kernel_rfl) (fun _ _ _ h => h) (Or.inr ⟨by rfl, rfl⟩) (by assumption) ?_
  go_simp
  refine wpAnyH_take (i := 17) (v := undef) rfl (by kernel_rfl) (by kernel_rfl) (by kernel_rfl) (fun _ _ _ h => h) (Or.inr ⟨by rfl, rfl⟩) (by assumption) ?_
  go_simp
  refine wpAnyH_take (i := 18) (v := undef) rfl (by kernel_rfl) (by kernel_rfl) (by kernel_rfl) (fun _ _ _ h => h) (Or.inr ⟨by rfl, rfl⟩) (by assumption) ?_
  go_simp
  refine wpAnyH_take (i := 19) (v := (.bool false)) rfl (by kernel_rfl) (by kernel_rfl) (by kernel_rfl) (fun _ _ _ h => h) (Or.inl ⟨by rfl, ?hhno19⟩) (by assumption) ?rrno19
  case hhno19 => (intro wz9 hSw; go_simp; try with_reducible rfl)
  go_simp
  refine wpAnyH_take (i := 20) (v := (.bool false)) rfl (by kernel_rfl) (by kernel_rfl) (by kernel_rfl) (fun _ _ _ h => h) (Or.inl ⟨by rfl, ?hhno20⟩) (by assumption) ?rrno20
  case hhno20 => (intro wz9 hSw; go_simp; try with_reducible rfl)
  go_simp
  refine wpAnyH_take (i := 21) (v := undef) rfl (by kernel_rfl) (by kernel_rfl) (by kernel_rfl) (fun _ _ _ h => h) (Or.inr ⟨by rfl, rfl⟩) (by assumption) ?_
  go_simp
  refine wpAnyH_take (i := 22) (v := undef) rfl (by kernel_rfl) (by kernel_rfl) (by kernel_rfl) (fun _ _ _ h => h) (Or.inr ⟨by rfl, rfl⟩) (by assumption) ?_
  go_simp
  refine wpAnyH_take (i := 23) (v := undef) rfl (by kernel_rfl) (by kernel_rfl) (by kernel_rfl) (fun _ _ _ h => h) (Or.inr ⟨by rfl, rfl⟩) (by assumption) ?_
  go_simp
  refine wpAnyH_take (i := 24) (v := undef) rfl (by kernel_rfl) (by kernel_rfl) (by kernel_rfl) (fun _ _ _ h => h) (Or.inr ⟨by rfl, rfl⟩) (by assumption) ?_
  go_simp
  refine wpAnyH_take (i := 25) (v := (.bool false)) rfl (by kernel_rfl) (by kernel_rfl) (by kernel_rfl) (fun _ _ _ h => h) (Or.inl ⟨by rfl, ?hhno25⟩) (by assumption) ?rrno25
  case hhno25 => (intro wz9 hSw; go_simp; try with_reducible rfl)
  go_simp
  refine wpAnyH_take (i := 26) (v := (.bool false)) rfl (by kernel_rfl) (by kernel_rfl) (by kernel_rfl) (fun _ _ _ h => h) (Or.inl ⟨by rfl, ?hhno26⟩) (by assumption) ?rrno26
  case hhno26 => (intro wz9 hSw; go_simp; try with_reducible rfl)
  go_simp
  refine wpAnyH_done (by kernel_rfl) ?_ _
  go_wp2
  go_ret
  exact ⟨rfl, hkB.trans hHeld⟩
set_option maxHeartbeats 8000000 in
theorem right3_pub (v : Int) (p : Pk) (s : Sl) (w : World) (hk : p.kind = 3) (hp : p.At s w) (hf : p.few) (hw : Wf p) (hb : { zk 3 with dup := p.dup, qos := p.qos, retain := p.retain, topic := p.topic, id := p.id, props := p.props, load := p.load } = p) (ht : p.topic.size ≤ 140737488351232) (hld : p.load.size ≤ 140737488351232) (hT : Tabs w)
    (hE : existsB v 3 = true) (hPr : propsB v p = true) (hPu : publishB v p = false) :
    Calls Tryd.prog 11 #[.int .i64 v, p.val s] w fun e w' => e = .returned (.bool false) ∧ Kept No w w' := by
  have HE : Hid (∀ wx, Calls Tryd.prog 18 #[.int .i64 v, .int .i64 3] wx fun e w' => e = .returned (.bool true) ∧ wx = w') := Lib.hid (fun wx => by have := exists_any v 3 wx; rw [hE] at this; exact this)
  have hB1 := Blk.new w 34 (p.cells s)
  have hkB : Kept No w (w.alloc (.cells (p.cells s) 34)) := (Kept.refl No w).alloc _
  have HS0 := Lib.hid (fun wx (hk : Kept No w wx) => show Calls Tryd.prog 6 #[p.val s, .agg (Pk.cells { zk 3 with dup := p.dup, qos := p.qos, retain := p.retain, topic := p.topic, id := p.id, props := p.props, load := p.load } ⟨none, 0, none, 0, none, 0, s.pa, s.pc⟩)] wx fun e w' => e = .returned (.bool true) ∧ Kept No wx w' from by
    have c := pksame_any p ({ zk 3 with dup := p.dup, qos := p.qos, retain := p.retain, topic := p.topic, id := p.id, props := p.props, load := p.load }) s ⟨none, 0, none, 0, none, 0, s.pa, s.pc⟩ wx (hp.kept hk) ⟨.nil _ _, .nil _ _, .nil _ _, (hp.kept hk).hp⟩ hf ⟨by simp [zk], by simp [zk], by simp [zk], hf.hp⟩
    rw [sameB_eq, decide_eq_true hb.symm] at c
    exact c)
  have HO0 := Lib.hid (fun wx => own_k3 p s wx hk)
  obtain ⟨bv, hbv⟩ : ∃ bv, bv = Value.agg (Pk.cells { zk 3 with dup := p.dup, qos := p.qos, retain := p.retain, topic := p.topic, id := p.id, props := p.props, load := p.load } ⟨none, 0, none, 0, none, 0, s.pa, s.pc⟩) := ⟨_, rfl⟩
  rw [← hbv] at HS0 HO0
  clear hbv
  have HP0 := Lib.hid (fun wx (hk : Kept No w wx) => show Calls Tryd.prog 20 #[.int .i64 v, p.val s] wx fun e w' => e = .returned (.bool true) ∧ Kept No wx w' from by
    have c := propsRight_any v p s wx (hp.kept hk) hf hw (hT.kept hk)
    rw [hPr] at c
    exact c)
  have HF0 := Lib.hid (fun wx (hkk : Kept No w wx) => show Calls Tryd.prog 21 #[.int .i64 v, p.val s] wx fun e w' => e = .returned (.bool false) ∧ Kept No wx w' from by
    have c := fieldsRight_k3 v p s wx hk (hp.kept hkk) hf (by omega) (hT.kept hkk)
    rw [hPu] at c
    exact c)
  go_enter Tryd.func11, Tryd.ntmps11
  refine wp_seq_k (fun K9 hK9 => ?_)
  have HK := Lib.hid hK9
  clear hK9
  have HV : Hid (p.val s = .agg (p.cells s)) := Lib.hid rfl
  rw [HV.out]
  go_wp2
  refine HK.out _ _ ?_
  clear HK
  change Code.wp _ _ _ _ (w.alloc (.cells (p.cells s) 34))
  generalize w.alloc (.cells (p.cells s) 34) = wB at *
  have CB := Lib.hid (fun wx (hk : Kept No wB wx) (i : Nat) => (hB1.kept hk (fun f => f)).cell i)
  clear hB1
  have HS := Lib.hid (fun wx (hk : Kept No wB wx) => HS0.out wx (hkB.trans hk))
  have HP := Lib.hid (fun wx (hk : Kept No wB wx) => HP0.out wx (hkB.trans hk))
  have HF := Lib.hid (fun wx (hk : Kept No wB wx) => HF0.out wx (hkB.trans hk))
  refine wp_seq ?_
  refine wp_region_held_drew (S := (fun wx => Kept No wB wx)) (by kernel_rfl) ?_ (fun hHeld => ?_)
  · exact (Kept.refl No wB).drew
  generalize wB.drew = W0 at *
  refine wpAnyH_take (i := 0) (v := (.int .i64 v)) rfl (by kernel_rfl) (by kernel_rfl) (by kernel_rfl) (fun _ _ _ h => h) (Or.inl ⟨by rfl, ?hhpub0⟩) (by assumption) ?rrpub0
  case hhpub0 => (intro wz9 hSw; go_simp; try with_reducible rfl)
  go_simp
  refine wpAnyH_take (i := 1) (v := (.pointer (some ⟨w.heap.size, 0, none⟩))) rfl (by kernel_rfl) (by kernel_rfl) (by kernel_rfl) (fun _ _ _ h => h) (Or.inl ⟨by rfl, ?hhpub1⟩) (by assumption) ?rrpub1
  case hhpub1 => (intro wz9 hSw; go_simp; try with_reducible rfl)
  go_simp
  refine wpAnyH_take (i := 2) (v := (.int .i64 3)) rfl (by kernel_rfl) (by kernel_rfl) (by kernel_rfl) (fun _ _ _ h => h) (Or.inl ⟨by rfl, ?hhpub2⟩) (by assumption) ?rrpub2
  case hhpub2 => (intro wz9 hSw; have hc : wz9.cell? ⟨w.heap.size, 0, none⟩ = some (.int .i64 3) := (CB.out wz9 hSw 0).trans (by rw [← hk]; rfl); go_simp; try with_reducible rfl)
  go_simp
  refine wpAnyH_ready (rs := [3]) (by kernel_rfl) (by simp) ?_
  refine AllReadyH.cons rfl (fun K9 hK9 => ?_) AllReadyH.nil
  go_simp
  go_wp2_with (go_at_call 18; refine (HE.out _).mono ?_; rintro e w1 ⟨rfl, rfl⟩)
  refine hK9.out _ _ ?_ (fun hHeld2 => ?_)
  · exact hHeld.trans (Kept.refl _ _)
  clear hK9 K9 hHeld
  have hHeld := hHeld2
  clear hHeld2
  go_simp
  refine wpAnyH_take (i := 4) (v := (.bool true)) rfl (by kernel_rfl) (by kernel_rfl) (by kernel_rfl) (fun _ _ _ h => h) (Or.inl ⟨by rfl, ?hhpub4⟩) (by assumption) ?rrpub4
  case hhpub4 => (intro wz9 hSw; go_simp; try with_reducible rfl)
  go_simp
  refine wpAnyH_take (i := 5) (v := (p.val s)) rfl (by kernel_rfl) (by kernel_rfl) (by kernel_rfl) (fun _ _ _ h => h) (Or.inl ⟨by rfl, ?hhpub5⟩) (by assumption) ?rrpub5
  case hhpub5 => (intro wz9 hSw; exact run_value (pkl_whole w.heap.size p s wz9 (fun i => CB.out wz9 hSw i)))
  go_simp
  refine wpAnyH_take (i := 6) (v := (p.val s)) rfl (by kernel_rfl) (by kernel_rfl) (by kernel_rfl) (fun _ _ _ h => h) (Or.inl ⟨by rfl, ?hhpub6⟩) (by assumption) ?rrpub6
  case hhpub6 => (intro wz9 hSw; exact run_value (pkl_whole w.heap.size p s wz9 (fun i => CB.out wz9 hSw i)))
  go_simp
  refine wpAnyH_ready (rs := [7]) (by kernel_rfl) (by simp) ?_
  refine AllReadyH.cons rfl (fun K9 hK9 => ?_) AllReadyH.nil
  go_simp
  go_wp2_with (go_at_call 19; refine (HO0.out _).mono ?_; rintro e w2 ⟨rfl, k2⟩)
  refine hK9.out _ _ ?_ (fun hHeld2 => ?_)
  · exact hHeld.trans k2
  clear hK9 K9 hHeld
  have hHeld := hHeld2
  clear hHeld2
  go_simp
  refine wpAnyH_ready (rs := [8]) (by kernel_rfl) (by simp) ?_
  refine AllReadyH.cons rfl (fun K9 hK9 => ?_) AllReadyH.nil
  go_simp
  go_wp2_with (go_at_call 6; refine (HS.out _ hHeld).mono ?_; rintro e w3 ⟨rfl, k3⟩)
  refine hK9.out _ _ ?_ (fun hHeld2 => ?_)
  · exact hHeld.trans k3
  clear hK9 K9 hHeld
  have hHeld := hHeld2
  clear hHeld2
  go_simp
  refine wpAnyH_take (i := 9) (v := (.bool true)) rfl (by kernel_rfl) (by kernel_rfl) (by kernel_rfl) (fun _ _ _ h => h) (Or.inl ⟨by rfl, ?hhpub9⟩) (by assumption) ?rrpub9
  case hhpub9 => (intro wz9 hSw; go_simp; try with_reducible rfl)
  go_simp
  refine wpAnyH_take (i := 10) (v := (.bool true)) rfl (by kernel_rfl) (by kernel_rfl) (by kernel_rfl) (fun _ _ _ h => h) (Or.inl ⟨by rfl, ?hhpub10⟩) (by assumption) ?rrpub10
  case hhpub10 => (intro wz9 hSw; go_simp; try with_reducible rfl)
  go_simp
  refine wpAnyH_take (i := 11) (v := (.int .i64 v)) rfl (by kernel_rfl) (by kernel_rfl) (by kernel_rfl) (fun _ _ _ h => h) (Or.inl ⟨by rfl, ?hhpub11⟩) (by assumption) ?rrpub11
  case hhpub11 => (intro wz9 hSw; go_simp; try with_reducible rfl)
  go_simp
  refine wpAnyH_take (i := 12) (v := (p.val s)) rfl (by kernel_rfl) (by kernel_rfl) (by kernel_rfl) (fun _ _ _ h => h) (Or.inl ⟨by rfl, ?hhpub12⟩) (by assumption) ?rrpub12
  case hhpub12 => (intro wz9 hSw; exact run_value (pkl_whole w.heap.size p s wz9 (fun i => CB.out wz9 hSw i)))
  go_simp
  refine wpAnyH_ready (rs := [13]) (by kernel_rfl) (by simp) ?_
  refine AllReadyH.cons rfl (fun K9 hK9 => ?_) AllReadyH.nil
  go_simp
  go_wp2_with (go_at_call 20; refine (HP.out _ hHeld).mono ?_; rintro e w4 ⟨rfl, k4⟩)
  refine hK9.out _ _ ?_ (fun hHeld2 => ?_)
  · exact hHeld.trans k4
  clear hK9 K9 hHeld
  have hHeld := hHeld2
  clear hHeld2
  go_simp
  refine wpAnyH_take (i := 14) (v := (.bool true)) rfl (by kernel_rfl) (by kernel_rfl) (by kernel_rfl) (fun _ _ _ h => h) (Or.inl ⟨by rfl, ?hhpub14⟩) (by assumption) ?rrpub14
  case hhpub14 => (intro wz9 hSw; go_simp; try with_reducible rfl)
  go_simp
  refine wpAnyH_take (i := 15) (v := (.bool true)) rfl (by kernel_rfl) (by kernel_rfl) (by kernel_rfl) (fun _ _ _ h => h) (Or.inl ⟨by rfl, ?hhpub15⟩) (by assumption) ?rrpub15
  case hhpub15 => (intro wz9 hSw; go_simp; try with_reducible rfl)
  go_simp
  refine wpAnyH_take (i := 16) (v := (.int .i64 v)) rfl (by kernel_rfl) (by kernel_rfl) (by kernel_rfl) (fun _ _ _ h => h) (Or.inl ⟨by rfl, ?hhpub16⟩) (by assumption) ?rrpub16
  case hhpub16 => (intro wz9 hSw; go_simp; try with_reducible rfl)
  go_simp
  refine wpAnyH_take (i := 17) (v := (p.val s)) rfl (by kernel_rfl) (by kernel_rfl) (by kernel_rfl) (fun _ _ _ h => h) (Or.inl ⟨by rfl, ?hhpub17⟩) (by assumption) ?rrpub17
  case hhpub17 => (intro wz9 hSw; exact run_value (pkl_whole w.heap.size p s wz9 (fun i => CB.out wz9 hSw i)))
  go_simp
  refine wpAnyH_ready (rs := [18]) (by kernel_rfl) (by simp) ?_
  refine AllReadyH.cons rfl (fun K9 hK9 => ?_) AllReadyH.nil
  go_simp
  go_wp2_with (go_at_call 21; refine (HF.out _ hHeld).mono ?_; rintro e w5 ⟨rfl, k5⟩)
  refine hK9.out _ _ ?_ (fun hHeld2 => ?_)
  · exact hHeld.trans k5
  clear hK9 K9 hHeld
  have hHeld := hHeld2
  clear hHeld2
  go_simp
  refine wpAnyH_take (i := 19) (v := (.bool false)) rfl (by kernel_rfl) (by kernel_rfl) (by kernel_rfl) (fun _ _ _ h => h) (Or.inl ⟨by rfl, ?hhpub19⟩) (by assumption) ?rrpub19
  case hhpub19 => (intro wz9 hSw; go_simp; try with_reducible rfl)
  go_simp
  refine wpAnyH_take (i := 20) (v := (.bool false)) rfl (by kernel_rfl) (by kernel_rfl) (by kernel_rfl) (fun _ _ _ h => h) (Or.inl ⟨by rfl, ?hhpub20⟩) (by assumption) ?rrpub20
  case hhpub20 => (intro wz9 hSw; go_simp; try with_reducible rfl)
  go_simp
  refine wpAnyH_take (i := 21) (v := undef) rfl (by kernel_rfl) (by kernel_rfl) (by kernel_rfl) (fun _ _ _ h => h) (Or.inr ⟨by rfl, rfl⟩) (by assumption) ?_
  go_simp
  refine wpAnyH_take (i := 22) (v := undef) rfl (by kernel_rfl) (by kernel_rfl) (by kernel_rfl) (fun _ _ _ h => h) (Or.inr ⟨by rfl, rfl⟩) (by assumption) ?_
  go_simp
  refine wpAnyH_take (i := 23) (v := undef) rfl (by kernel_rfl) (by kernel_rfl) (by kernel_rfl) (fun _ _ _ h => h) (Or.inr ⟨by rfl, rfl⟩) (by assumption) ?_
  go_simp
  refine wpAnyH_take (i := 24) (v := undef) rfl (by kernel_rfl) (by kernel_rfl) (by kernel_rfl) (fun _ _ _ h => h) (Or.inr ⟨by rfl, rfl⟩) (by assumption) ?_
  go_simp
  refine wpAnyH_take (i := 25) (v := (.bool false)) rfl (by kernel_rfl) (by kernel_rfl) (by kernel_rfl) (fun _ _ _ h => h) (Or.inl ⟨by rfl, ?hhpub25⟩) (by assumption) ?rrpub25
  case hhpub25 => (intro wz9 hSw; go_simp; try with_reducible rfl)
  go_simp
  refine wpAnyH_take (i := 26) (v := (.bool false)) rfl (by kernel_rfl) (by kernel_rfl) (by kernel_rfl) (fun _ _ _ h => h) (Or.inl ⟨by rfl, ?hhpub26⟩) (by assumption) ?rrpub26
  case hhpub26 => (intro wz9 hSw; go_simp; try with_reducible rfl)
  go_simp
  refine wpAnyH_done (by kernel_rfl) ?_ _
  go_wp2
  go_ret
  exact ⟨rfl, hkB.trans hHeld⟩
set_option maxHeartbeats 8000000 in
theorem right3_yes (v : Int) (p : Pk) (s : Sl) (w : World) (hk : p.kind = 3) (hp : p.At s w) (hf : p.few) (hw : Wf p) (hb : { zk 3 with dup := p.dup, qos := p.qos, retain := p.retain, topic := p.topic, id := p.id, props := p.props, load := p.load } = p) (ht : p.topic.size ≤ 140737488351232) (hld : p.load.size ≤ 140737488351232) (hT : Tabs w)
    (hE : existsB v 3 = true) (hPr : propsB v p = true) (hPu : publishB v p = true) (hRe : 2 + p.topic.size + (if p.qos = 0 then 0 else 2) + secN v p.props + p.load.size ≤ 268435455) :
    Calls Tryd.prog 11 #[.int .i64 v, p.val s] w fun e w' => e = .returned (.bool true) ∧ Kept No w w' := by
  have HE : Hid (∀ wx, Calls Tryd.prog 18 #[.int .i64 v, .int .i64 3] wx fun e w' => e = .returned (.bool true) ∧ wx = w') := Lib.hid (fun wx => by have := exists_any v 3 wx; rw [hE] at this; exact this)
  have hB1 := Blk.new w 34 (p.cells s)
  have hkB : Kept No w (w.alloc (.cells (p.cells s) 34)) := (Kept.refl No w).alloc _
  have HS0 := Lib.hid (fun wx (hk : Kept No w wx) => show Calls Tryd.prog 6 #[p.val s, .agg (Pk.cells { zk 3 with dup := p.dup, qos := p.qos, retain := p.retain, topic := p.topic, id := p.id, props := p.props, load := p.load } ⟨none, 0, none, 0, none, 0, s.pa, s.pc⟩)] wx fun e w' => e = .returned (.bool true) ∧ Kept No wx w' from by
    have c := pksame_any p ({ zk 3 with dup := p.dup, qos := p.qos, retain := p.retain, topic := p.topic, id := p.id, props := p.props, load := p.load }) s ⟨none, 0, none, 0, none, 0, s.pa, s.pc⟩ wx (hp.kept hk) ⟨.nil _ _, .nil _ _, .nil _ _, (hp.kept hk).hp⟩ hf ⟨by simp [zk], by simp [zk], by simp [zk], hf.hp⟩
    rw [sameB_eq, decide_eq_true hb.symm] at c
    exact c)
  have HO0 := Lib.hid (fun wx => own_k3 p s wx hk)
  obtain ⟨bv, hbv⟩ : ∃ bv, bv = Value.agg (Pk.cells { zk 3 with dup := p.dup, qos := p.qos, retain := p.retain, topic := p.topic, id := p.id, props := p.props, load := p.load } ⟨none, 0, none, 0, none, 0, s.pa, s.pc⟩) := ⟨_, rfl⟩
  rw [← hbv] at HS0 HO0
  clear hbv
  have HP0 := Lib.hid (fun wx (hk : Kept No w wx) => show Calls Tryd.prog 20 #[.int .i64 v, p.val s] wx fun e w' => e = .returned (.bool true) ∧ Kept No wx w' from by
    have c := propsRight_any v p s wx (hp.kept hk) hf hw (hT.kept hk)
    rw [hPr] at c
    exact c)
  have HF0 := Lib.hid (fun wx (hkk : Kept No w wx) => show Calls Tryd.prog 21 #[.int .i64 v, p.val s] wx fun e w' => e = .returned (.bool true) ∧ Kept No wx w' from by
    have c := fieldsRight_k3 v p s wx hk (hp.kept hkk) hf (by omega) (hT.kept hkk)
    rw [hPu] at c
    exact c)
  obtain ⟨rz, hrz⟩ : ∃ rz : Nat, rz = 2 + p.topic.size + (if p.qos = 0 then 0 else 2) + secN v p.props + p.load.size := ⟨_, rfl⟩
  rw [← hrz] at hRe
  have HRZ := Lib.hid hrz
  clear hrz
  have hReI : (rz : Int) ≤ 268435455 := by omega
  have HZ0 := Lib.hid (fun wx (hkk : Kept No w wx) => show Calls Tryd.prog 22 #[.int .i64 v, p.val s] wx fun e w' => e = .returned (.int .i64 (rz : Nat)) ∧ Kept No wx w' from by
    have c := rest_k3 v p s wx hk (hp.kept hkk) hf hw ht hld (hT.kept hkk)
    rw [← HRZ.out] at c
    exact c)
  go_enter Tryd.func11, Tryd.ntmps11
  refine wp_seq_k (fun K9 hK9 => ?_)
  have HK := Lib.hid hK9
  clear hK9
  have HV : Hid (p.val s = .agg (p.cells s)) := Lib.hid rfl
  rw [HV.out]
  go_wp2
  refine HK.out _ _ ?_
  clear HK
  change Code.wp _ _ _ _ (w.alloc (.cells (p.cells s) 34))
  generalize w.alloc (.cells (p.cells s) 34) = wB at *
  have CB := Lib.hid (fun wx (hk : Kept No wB wx) (i : Nat) => (hB1.kept hk (fun f => f)).cell i)
  clear hB1
  have HS := Lib.hid (fun wx (hk : Kept No wB wx) => HS0.out wx (hkB.trans hk))
  have HP := Lib.hid (fun wx (hk : Kept No wB wx) => HP0.out wx (hkB.trans hk))
  have HF := Lib.hid (fun wx (hk : Kept No wB wx) => HF0.out wx (hkB.trans hk))
  have HZ := Lib.hid (fun wx (hk : Kept No wB wx) => HZ0.out wx (hkB.trans hk))
  refine wp_seq ?_
  refine wp_region_held_drew (S := (fun wx => Kept No wB wx)) (by kernel_rfl) ?_ (fun hHeld => ?_)
  · exact (Kept.refl No wB).drew
  generalize wB.drew = W0 at *
  refine wpAnyH_take (i := 0) (v := (.int .i64 v)) rfl (by kernel_rfl) (by kernel_rfl) (by kernel_rfl) (fun _ _ _ h => h) (Or.inl ⟨by rfl, ?hhyes0⟩) (by assumption) ?rryes0
  case hhyes0 => (intro wz9 hSw; go_simp; try with_reducible rfl)
  go_simp
  refine wpAnyH_take (i := 1) (v := (.pointer (some ⟨w.heap.size, 0, none⟩))) rfl (by kernel_rfl) (by kernel_rfl) (by kernel_rfl) (fun _ _ _ h => h) (Or.inl ⟨by rfl, ?hhyes1⟩) (by assumption) ?rryes1
  case hhyes1 => (intro wz9 hSw; go_simp; try with_reducible rfl)
  go_simp
  refine wpAnyH_take (i := 2) (v := (.int .i64 3)) rfl (by kernel_rfl) (by kernel_rfl) (by kernel_rfl) (fun _ _ _ h => h) (Or.inl ⟨by rfl, ?hhyes2⟩) (by assumption) ?rryes2
  case hhyes2 => (intro wz9 hSw; have hc : wz9.cell? ⟨w.heap.size, 0, none⟩ = some (.int .i64 3) := (CB.out wz9 hSw 0).trans (by rw [← hk]; rfl); go_simp; try with_reducible rfl)
  go_simp
  refine wpAnyH_ready (rs := [3]) (by kernel_rfl) (by simp) ?_
  refine AllReadyH.cons rfl (fun K9 hK9 => ?_) AllReadyH.nil
  go_simp
  go_wp2_with (go_at_call 18; refine (HE.out _).mono ?_; rintro e w1 ⟨rfl, rfl⟩)
  refine hK9.out _ _ ?_ (fun hHeld2 => ?_)
  · exact hHeld.trans (Kept.refl _ _)
  clear hK9 K9 hHeld
  have hHeld := hHeld2
  clear hHeld2
  go_simp
  refine wpAnyH_take (i := 4) (v := (.bool true)) rfl (by kernel_rfl) (by kernel_rfl) (by kernel_rfl) (fun _ _ _ h => h) (Or.inl ⟨by rfl, ?hhyes4⟩) (by assumption) ?rryes4
  case hhyes4 => (intro wz9 hSw; go_simp; try with_reducible rfl)
  go_simp
  refine wpAnyH_take (i := 5) (v := (p.val s)) rfl (by kernel_rfl) (by kernel_rfl) (by kernel_rfl) (fun _ _ _ h => h) (Or.inl ⟨by rfl, ?hhyes5⟩) (by assumption) ?rryes5
  case hhyes5 => (intro wz9 hSw; exact run_value (pkl_whole w.heap.size p s wz9 (fun i => CB.out wz9 hSw i)))
  go_simp
  refine wpAnyH_take (i := 6) (v := (p.val s)) rfl (by kernel_rfl) (by kernel_rfl) (by kernel_rfl) (fun _ _ _ h => h) (Or.inl ⟨by rfl, ?hhyes6⟩) (by assumption) ?rryes6
  case hhyes6 => (intro wz9 hSw; exact run_value (pkl_whole w.heap.size p s wz9 (fun i => CB.out wz9 hSw i)))
  go_simp
  refine wpAnyH_ready (rs := [7]) (by kernel_rfl) (by simp) ?_
  refine AllReadyH.cons rfl (fun K9 hK9 => ?_) AllReadyH.nil
  go_simp
  go_wp2_with (go_at_call 19; refine (HO0.out _).mono ?_; rintro e w2 ⟨rfl, k2⟩)
  refine hK9.out _ _ ?_ (fun hHeld2 => ?_)
  · exact hHeld.trans k2
  clear hK9 K9 hHeld
  have hHeld := hHeld2
  clear hHeld2
  go_simp
  refine wpAnyH_ready (rs := [8]) (by kernel_rfl) (by simp) ?_
  refine AllReadyH.cons rfl (fun K9 hK9 => ?_) AllReadyH.nil
  go_simp
  go_wp2_with (go_at_call 6; refine (HS.out _ hHeld).mono ?_; rintro e w3 ⟨rfl, k3⟩)
  refine hK9.out _ _ ?_ (fun hHeld2 => ?_)
  · exact hHeld.trans k3
  clear hK9 K9 hHeld
  have hHeld := hHeld2
  clear hHeld2
  go_simp
  refine wpAnyH_take (i := 9) (v := (.bool true)) rfl (by kernel_rfl) (by kernel_rfl) (by kernel_rfl) (fun _ _ _ h => h) (Or.inl ⟨by rfl, ?hhyes9⟩) (by assumption) ?rryes9
  case hhyes9 => (intro wz9 hSw; go_simp; try with_reducible rfl)
  go_simp
  refine wpAnyH_take (i := 10) (v := (.bool true)) rfl (by kernel_rfl) (by kernel_rfl) (by kernel_rfl) (fun _ _ _ h => h) (Or.inl ⟨by rfl, ?hhyes10⟩) (by assumption) ?rryes10
  case hhyes10 => (intro wz9 hSw; go_simp; try with_reducible rfl)
  go_simp
  refine wpAnyH_take (i := 11) (v := (.int .i64 v)) rfl (by kernel_rfl) (by kernel_rfl) (by kernel_rfl) (fun _ _ _ h => h) (Or.inl ⟨by rfl, ?hhyes11⟩) (by assumption) ?rryes11
  case hhyes11 => (intro wz9 hSw; go_simp; try with_reducible rfl)
  go_simp
  refine wpAnyH_take (i := 12) (v := (p.val s)) rfl (by kernel_rfl) (by kernel_rfl) (by kernel_rfl) (fun _ _ _ h => h) (Or.inl ⟨by rfl, ?hhyes12⟩) (by assumption) ?rryes12
  case hhyes12 => (intro wz9 hSw; exact run_value (pkl_whole w.heap.size p s wz9 (fun i => CB.out wz9 hSw i)))
  go_simp
  refine wpAnyH_ready (rs := [13]) (by kernel_rfl) (by simp) ?_
  refine AllReadyH.cons rfl (fun K9 hK9 => ?_) AllReadyH.nil
  go_simp
  go_wp2_with (go_at_call 20; refine (HP.out _ hHeld).mono ?_; rintro e w4 ⟨rfl, k4⟩)
  refine hK9.out _ _ ?_ (fun hHeld2 => ?_)
  · exact hHeld.trans k4
  clear hK9 K9 hHeld
  have hHeld := hHeld2
  clear hHeld2
  go_simp
  refine wpAnyH_take (i := 14) (v := (.bool true)) rfl (by kernel_rfl) (by kernel_rfl) (by kernel_rfl) (fun _ _ _ h => h) (Or.inl ⟨by rfl, ?hhyes14⟩) (by assumption) ?rryes14
  case hhyes14 => (intro wz9 hSw; go_simp; try with_reducible rfl)
  go_simp
  refine wpAnyH_take (i := 15) (v := (.bool true)) rfl (by kernel_rfl) (by kernel_rfl) (by kernel_rfl) (fun _ _ _ h => h) (Or.inl ⟨by rfl, ?hhyes15⟩) (by assumption) ?rryes15
  case hhyes15 => (intro wz9 hSw; go_simp; try with_reducible rfl)
  go_simp
  refine wpAnyH_take (i := 16) (v := (.int .i64 v)) rfl (by kernel_rfl) (by kernel_rfl) (by kernel_rfl) (fun _ _ _ h => h) (Or.inl ⟨by rfl, ?hhyes16⟩) (by assumption) ?rryes16
  case hhyes16 => (intro wz9 hSw; go_simp; try with_reducible rfl)
  go_simp
  refine wpAnyH_take (i := 17) (v := (p.val s)) rfl (by kernel_rfl) (by kernel_rfl) (by kernel_rfl) (fun _ _ _ h => h) (Or.inl ⟨by rfl, ?hhyes17⟩) (by assumption) ?rryes17
  case hhyes17 => (intro wz9 hSw; exact run_value (pkl_whole w.heap.size p s wz9 (fun i => CB.out wz9 hSw i)))
  go_simp
  refine wpAnyH_ready (rs := [18]) (by kernel_rfl) (by simp) ?_
  refine AllReadyH.cons rfl (fun K9 hK9 => ?_) AllReadyH.nil
  go_simp
  go_wp2_with (go_at_call 21; refine (HF.out _ hHeld).mono ?_; rintro e w5 ⟨rfl, k5⟩)
  refine hK9.out _ _ ?_ (fun hHeld2 => ?_)
  · exact hHeld.trans k5
  clear hK9 K9 hHeld
  have hHeld := hHeld2
  clear hHeld2
  go_simp
  refine wpAnyH_take (i := 19) (v := (.bool true)) rfl (by kernel_rfl) (by kernel_rfl) (by kernel_rfl) (fun _ _ _ h => h) (Or.inl ⟨by rfl, ?hhyes19⟩) (by assumption) ?rryes19
  case hhyes19 => (intro wz9 hSw; go_simp; try with_reducible rfl)
  go_simp
  refine wpAnyH_take (i := 20) (v := (.bool true)) rfl (by kernel_rfl) (by kernel_rfl) (by kernel_rfl) (fun _ _ _ h => h) (Or.inl ⟨by rfl, ?hhyes20⟩) (by assumption) ?rryes20
  case hhyes20 => (intro wz9 hSw; go_simp; try with_reducible rfl)
  go_simp
  refine wpAnyH_take (i := 21) (v := (.int .i64 v)) rfl (by kernel_rfl) (by kernel_rfl) (by kernel_rfl) (fun _ _ _ h => h) (Or.inl ⟨by rfl, ?hhyes21⟩) (by assumption) ?rryes21
  case hhyes21 => (intro wz9 hSw; go_simp; try with_reducible rfl)
  go_simp
  refine wpAnyH_take (i := 22) (v := (p.val s)) rfl (by kernel_rfl) (by kernel_rfl) (by kernel_rfl) (fun _ _ _ h => h) (Or.inl ⟨by rfl, ?hhyes22⟩) (by assumption) ?rryes22
  case hhyes22 => (intro wz9 hSw; exact run_value (pkl_whole w.heap.size p s wz9 (fun i => CB.out wz9 hSw i)))
  go_simp
  refine wpAnyH_ready (rs := [23]) (by kernel_rfl) (by simp) ?_
  refine AllReadyH.cons rfl (fun K9 hK9 => ?_) AllReadyH.nil
  go_simp
  go_wp2_with (go_at_call 22; refine (HZ.out _ hHeld).mono ?_; rintro e w6 ⟨rfl, k6⟩)
  refine hK9.out _ _ ?_ (fun hHeld2 => ?_)
  · exact hHeld.trans k6
  clear hK9 K9 hHeld
  have hHeld := hHeld2
  clear hHeld2
  go_simp
  refine wpAnyH_take (i := 24) (v := (.bool true)) rfl (by kernel_rfl) (by kernel_rfl) (by kernel_rfl) (fun _ _ _ h => h) (Or.inl ⟨by rfl, ?hhyes24⟩) (by assumption) ?rryes24
  case hhyes24 => (intro wz9 hSw; go_simp; try with_reducible rfl)
  go_simp
  refine wpAnyH_take (i := 25) (v := (.bool true)) rfl (by kernel_rfl) (by kernel_rfl) (by kernel_rfl) (fun _ _ _ h => h) (Or.inl ⟨by rfl, ?hhyes25⟩) (by assumption) ?rryes25
  case hhyes25 => (intro wz9 hSw; go_simp; try with_reducible rfl)
  go_simp
  refine wpAnyH_take (i := 26) (v := (.bool true)) rfl (by kernel_rfl) (by kernel_rfl) (by kernel_rfl) (fun _ _ _ h => h) (Or.inl ⟨by rfl, ?hhyes26⟩) (by assumption) ?rryes26
  case hhyes26 => (intro wz9 hSw; go_simp; try with_reducible rfl)
  go_simp
  refine wpAnyH_done (by kernel_rfl) ?_ _
  go_wp2
  go_ret
  exact ⟨rfl, hkB.trans hHeld⟩
end Go.Proofs.YtjihgcdhheoniaaDoor
