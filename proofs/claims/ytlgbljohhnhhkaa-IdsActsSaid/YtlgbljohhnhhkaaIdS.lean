/-
  IdsActs walked.
-/
import Derived.Test.YtlgbljohhnhhkaaIdN
import Derived.Test.YtlgbljohhnhhkaaIdQ
namespace Go.Proofs.Ytlgbljohhnhhkaa
open Go.RowKit
set_option linter.unusedVariables false
set_option linter.unusedSimpArgs false
set_option maxRecDepth 100000

/-- What one step does. -/
def stepR (L : List Rw) (o : Opx) : List Rw × Int := if o.open_ then openR L o.id o.st o.n else turnR L o.kind o.id o.failed o.n
theorem stepR_right {L : List Rw} (o : Opx) (h : rightGo 0 L = true) : rightGo 0 (stepR L o).1 = true := by
  unfold stepR
  split
  · exact openR_right h
  · exact turnR_right h
theorem stepR_len {L : List Rw} (o : Opx) (h : rightGo 0 L = true) : (stepR L o).1.length ≤ L.length + 1 := by
  unfold stepR
  split
  · exact openR_len _ _ _ _ h
  · exact turnR_len _ _ _ _ _ h
def FromIs (n : Nat) (L : List Rw) (w : World) (e : Ending) (w' : World) : Prop := ∃ a c, e = .returned (.slice a n c) ∧ Row w' a (RC L) ∧ Kept No w w'
theorem from_num (a : Option Addr) (c : Nat) (L : List Rw) (n : Nat) (w : World) (hr : Row w a (RC L)) (hl : L.length ≤ 1000) (hn : L.length = n) :
    Calls Try.prog 11 #[.slice a n c] w (FromIs n L w) := by
  subst hn
  exact (ifrom_any a c L w hr (by omega)).mono fun e w' h => by obtain ⟨a4, c4, h1, h2, h3⟩ := h.row; exact ⟨a4, c4, h1, h2.row, h3⟩
theorem same_num (a a9 : Option Addr) (c c9 : Nat) (L : List Rw) (n : Nat) (w : World) (hr : Row w a (RC L)) (hr9 : Row w a9 (RC L)) (hl : L.length ≤ 1000) (hn : L.length = n) :
    Calls Try.prog 16 #[.slice a n c, .slice a9 n c9] w (RightIs true w) := by
  subst hn
  have := rsame_any a c L a9 c9 L w hr hr9 (by omega) (by omega)
  rwa [decide_eq_true rfl] at this
theorem right_num (a : Option Addr) (c : Nat) (L : List Rw) (n : Nat) (w : World) (hr : Row w a (RC L)) (hl : L.length ≤ 1000) (hn : L.length = n) (h : rightGo 0 L = true) :
    Calls Try.prog 8 #[.slice a n c] w (RightIs true w) := by
  subst hn
  have := iright_any a c L w hr (by omega)
  rwa [h] at this
theorem fly_num (a : Option Addr) (c : Nat) (L : List Rw) (n : Nat) (w : World) (hr : Row w a (RC L)) (hl : L.length ≤ 1000) (hn : L.length = n) (h : rightGo 0 L = true) :
    Calls Try.prog 17 #[.slice a n c] w (FlyIs (flyN L) w) := by
  subst hn
  exact iflying_any a c L w hr (by omega) (fits_all h)
theorem rfly_num (a : Option Addr) (c : Nat) (L : List Rw) (n : Nat) (w : World) (hr : Row w a (RC L)) (hl : L.length ≤ 1000) (hn : L.length = n) :
    Calls Try.prog 18 #[.slice a n c] w (FlyIs (flyN L) w) := by
  subst hn
  exact rflying_any a c L w hr (by omega)
theorem open_num (a : Option Addr) (c : Nat) (L : List Rw) (n : Nat) (o : Opx) (w : World) (ht : Tb w a c L) (hR : rightGo 0 L = true) (hl : L.length ≤ 1000) (hn : L.length = n) (ho : o.open_ = true) (M : List Rw) (z : Int) (m : Nat) (hM : stepR L o = (M, z)) (hm : M.length = m) :
    Calls Try.prog 12 #[.slice a n c, .int .u16 o.id, .int .i64 o.st, .int .i64 o.n] w (TabN m M z w) := by
  subst hn
  unfold stepR at hM
  rw [ho] at hM
  exact (iopen_any a c L o.id o.st o.n w ht hR hl).mono fun e w' h => h.num hM hm
theorem ropen_num (a : Option Addr) (c : Nat) (L : List Rw) (n : Nat) (o : Opx) (w : World) (ht : Tb w a c L) (hR : rightGo 0 L = true) (hl : L.length ≤ 1000) (hn : L.length = n) (ho : o.open_ = true) (M : List Rw) (z : Int) (m : Nat) (hM : stepR L o = (M, z)) (hm : M.length = m) :
    Calls Try.prog 13 #[.slice a n c, .int .u16 o.id, .int .i64 o.st, .int .i64 o.n] w (TabN m M z w) := by
  subst hn
  unfold stepR at hM
  rw [ho] at hM
  exact (ropen_any a c L o.id o.st o.n w ht hR hl).mono fun e w' h => h.num hM hm
theorem turn_num (a : Option Addr) (c : Nat) (L : List Rw) (n : Nat) (o : Opx) (w : World) (ht : Tb w a c L) (hR : rightGo 0 L = true) (hl : L.length ≤ 1000) (hn : L.length = n) (ho : o.open_ = false) (M : List Rw) (z : Int) (m : Nat) (hM : stepR L o = (M, z)) (hm : M.length = m) :
    Calls Try.prog 14 #[.slice a n c, .int .i64 o.kind, .int .u16 o.id, .bool o.failed, .int .i64 o.n] w (TabN m M z w) := by
  subst hn
  unfold stepR at hM
  rw [ho] at hM
  exact (iturn_any a c L o.kind o.id o.failed o.n w ht hR hl).mono fun e w' h => h.num hM hm
theorem rturn_num (a : Option Addr) (c : Nat) (L : List Rw) (n : Nat) (o : Opx) (w : World) (ht : Tb w a c L) (hR : rightGo 0 L = true) (hl : L.length ≤ 1000) (hn : L.length = n) (ho : o.open_ = false) (M : List Rw) (z : Int) (m : Nat) (hM : stepR L o = (M, z)) (hm : M.length = m) :
    Calls Try.prog 15 #[.slice a n c, .int .i64 o.kind, .int .u16 o.id, .bool o.failed, .int .i64 o.n] w (TabN m M z w) := by
  subst hn
  unfold stepR at hM
  rw [ho] at hM
  exact (rturn_any a c L o.kind o.id o.failed o.n w ht hR hl).mono fun e w' h => h.num hM hm

set_option maxHeartbeats 8000000 in
theorem idsActs_walk (a : Option Addr) (len cap : Nat) (OL : List Opx) (w : World) (h : IsOps w a len cap OL) :
    Calls Try.prog 4 #[.slice a len cap] w fun e w' => e = .returned (.bool true) ∧ Below w.heap.size w w' := by
  obtain ⟨hlen, hrow, hle, hcap⟩ := h
  have HFIN := Lib.hid (fun wx (hk : Kept No w wx) => hk.below (Nat.le_refl _) (fun _ _ f => f))
  have HT := Lib.hid (fun wx => told11_any wx)
  unfold maxLen at hcap
  subst hlen
  go_enter Try.func4, Try.ntmps4
  go_wp2_with (go_at_call 7; refine (HT.out _).mono ?_; rintro e w1 ⟨rfl, hk1⟩)
  go_loopw [3, 4, 5] (fun t u i wr => ∃ (j n c c9 : Nat) (a1 a9 : Option Addr) (L : List Rw), i = .int .i64 j ∧ t = .slice a1 n c ∧ u = .slice a9 n c9 ∧ n ≤ j ∧ j ≤ 100 ∧ j ≤ OL.length ∧ Hid (L.length = n ∧ Tb wr a1 c L ∧ Tb wr a9 c9 L ∧ rightGo 0 L = true) ∧ Kept No w wr) (fun _ _ i _ => OL.length - (intOf i).toNat)
  case atStart => exact ⟨0, 0, 0, 0, none, none, [], rfl, rfl, rfl, by omega, by omega, by omega, Lib.hid ⟨rfl, tb_nil _, tb_nil _, rfl⟩, hk1⟩
  case round =>
    obtain ⟨j, n, c, c9, a1, a9, L, rfl, rfl, rfl, hn, hj, hjl, HL, hk⟩ := hrel
    by_cases hlt : j < OL.length
    · by_cases hj100 : j < 100
      · have hjI : (j : Int) < 100 := by omega
        obtain ⟨b, off, rfl, hb, q0, q1, q2, q3, q4, q5⟩ := (hrow.keptNo hk).opx hlt
        generalize OL[j] = o at *
        have HR2 := Lib.hid (stepR_right o HL.out.2.2.2)
        have hle2 := stepR_len o HL.out.2.2.2
        obtain ⟨M, z, hMz⟩ : ∃ M z, stepR L o = (M, z) := ⟨_, _, rfl⟩
        rw [hMz] at HR2 hle2
        have HMR := Lib.hid (show rightGo 0 M = true from HR2.out)
        obtain ⟨m, hm⟩ : ∃ m, M.length = m := ⟨_, rfl⟩
        have hmle : m ≤ n + 1 := by have := HL.out.1; have h9 : M.length ≤ L.length + 1 := hle2; omega
        have HMZ := Lib.hid hMz
        have HM := Lib.hid hm
        have hLl : L.length ≤ 1000 := by have := HL.out.1; omega
        have hMl : M.length ≤ 1000 := by omega
        have HLl := Lib.hid hLl
        have HMl := Lib.hid hMl
        have CF := Lib.hid (fun wx (hk : Kept No wr wx) => from_num a1 c L n wx (HL.out.2.1.row.keptNo hk) HLl.out HL.out.1)
        have hzz : ((z : Int) != z) = false := by simp
        cases ho : o.open_ with
        | true =>
          have CO := Lib.hid (fun wx (hk : Kept No wr wx) => open_num a1 c L n o wx (HL.out.2.1.keptNo hk) HL.out.2.2.2 HLl.out HL.out.1 ho M z m HMZ.out HM.out)
          have CR := Lib.hid (fun wx (hk : Kept No wr wx) => ropen_num a9 c9 L n o wx (HL.out.2.2.1.keptNo hk) HL.out.2.2.2 HLl.out HL.out.1 ho M z m HMZ.out HM.out)
          rw [ho] at q0
          obtain ⟨oo, ok, oi, os, of, on⟩ := o
          dsimp only at q0 q1 q2 q3 q4 q5 CO CR
          clear HR2 hle2 hMz hm ho hLl hMl
          go_wp2_with fail
          have hB0 := Blk.new wr 32 #[.bool true, .int .i64 ok, .int .u16 (oi : Int), .int .i64 os, .bool of, .int .i64 on]
          have hkW := (Kept.refl No wr).alloc (.cells #[.bool true, .int .i64 ok, .int .u16 (oi : Int), .int .i64 os, .bool of, .int .i64 on] 32)
          generalize wr.alloc (.cells #[.bool true, .int .i64 ok, .int .u16 (oi : Int), .int .i64 os, .bool of, .int .i64 on] 32) = w0 at *
          generalize wr.heap.size = g at hB0 ⊢
          clear q0 q1 q2 q3 q4 q5
          go_at_call 11
          refine (CF.out _ hkW).mono ?_
          rintro e w2 ⟨ah, ch, rfl, hrh, hk2⟩
          have hkA := hkW.trans hk2
          have hB2 := hB0.kept hk2 (fun f => f)
          have y0b := hB2.cell 0
          have y1b := hB2.cell 1
          have y2b := hB2.cell 2
          have y3b := hB2.cell 3
          have y4b := hB2.cell 4
          have y5b := hB2.cell 5
          simp at y0b y1b y2b y3b y4b y5b
          have ltb := hB2.lt
          go_wp2_with fail
          go_at_call 12
          refine (CO.out _ hkA).mono ?_
          rintro e w3 ⟨au, cu, rfl, htu, hk3⟩
          have hkB := hkA.trans hk3
          have hB3 := hB2.kept hk3 (fun f => f)
          clear y0b y1b y2b y3b y4b y5b
          have y0c := hB3.cell 0
          have y1c := hB3.cell 1
          have y2c := hB3.cell 2
          have y3c := hB3.cell 3
          have y4c := hB3.cell 4
          have y5c := hB3.cell 5
          simp at y0c y1c y2c y3c y4c y5c
          have ltc := hB3.lt
          go_wp2_with fail
          go_at_call 13
          refine (CR.out _ hkB).mono ?_
          rintro e w4 ⟨ax, cx, rfl, htx, hk4⟩
          have hkC := hkB.trans hk4
          clear y0c y1c y2c y3c y4c y5c
          go_wp2_with fail
          go_at_call 11
          refine (from_num au cu M m _ (htu.keptNo hk4).row HMl.out HM.out).mono ?_
          rintro e w5 ⟨af, cf, rfl, hrf, hk5⟩
          go_wp2_with fail
          go_at_call 16
          refine (same_num af ax cf cx M m _ hrf (htx.keptNo hk5).row HMl.out HM.out).mono ?_
          rintro e w6 ⟨rfl, hk6⟩
          have hkE := (hkC.trans hk5).trans hk6
          go_wp2_with fail
          go_at_call 11
          refine (CF.out _ hkE).mono ?_
          rintro e w7 ⟨ag, cg, rfl, hrg, hk7⟩
          go_wp2_with fail
          go_at_call 16
          refine (same_num ag ah cg ch L n _ hrg (hrh.keptNo ((((hk3.trans hk4).trans hk5).trans hk6).trans hk7)) HLl.out HL.out.1).mono ?_
          rintro e w8 ⟨rfl, hk8⟩
          have hkS := ((((hk4.trans hk5).trans hk6).trans hk7).trans hk8)
          have hkT := (((hk5.trans hk6).trans hk7).trans hk8)
          go_wp2_with fail
          go_at_call 8
          refine (right_num au cu M m _ (htu.keptNo hkS).row HMl.out HM.out HMR.out).mono ?_
          rintro e w9 ⟨rfl, hk9⟩
          go_wp2_with fail
          go_at_call 17
          refine (fly_num au cu M m _ ((htu.keptNo hkS).keptNo hk9).row HMl.out HM.out HMR.out).mono ?_
          rintro e wA ⟨rfl, hkAA⟩
          go_wp2_with fail
          go_at_call 18
          refine (rfly_num ax cx M m _ (((htx.keptNo hkT).keptNo hk9).keptNo hkAA).row HMl.out HM.out).mono ?_
          rintro e wB ⟨rfl, hkBB⟩
          have hkZ := (((hkE.trans hk7).trans hk8).trans hk9).trans (hkAA.trans hkBB)
          have hkU := (hkS.trans hk9).trans (hkAA.trans hkBB)
          have hkV := (hkT.trans hk9).trans (hkAA.trans hkBB)
          go_wp2
          go_roundw
          case rel => exact ⟨j + 1, m, cu, cx, au, ax, M, by go_num, rfl, rfl, by omega, by omega, by omega, Lib.hid ⟨HM.out, htu.keptNo hkU, htx.keptNo hkV, HMR.out⟩, hk.trans hkZ⟩
          case measure => simp [intOf]; omega
        | false =>
          have CO := Lib.hid (fun wx (hk : Kept No wr wx) => turn_num a1 c L n o wx (HL.out.2.1.keptNo hk) HL.out.2.2.2 HLl.out HL.out.1 ho M z m HMZ.out HM.out)
          have CR := Lib.hid (fun wx (hk : Kept No wr wx) => rturn_num a9 c9 L n o wx (HL.out.2.2.1.keptNo hk) HL.out.2.2.2 HLl.out HL.out.1 ho M z m HMZ.out HM.out)
          rw [ho] at q0
          obtain ⟨oo, ok, oi, os, of, on⟩ := o
          dsimp only at q0 q1 q2 q3 q4 q5 CO CR
          clear HR2 hle2 hMz hm ho hLl hMl
          go_wp2_with fail
          have hB0 := Blk.new wr 32 #[.bool false, .int .i64 ok, .int .u16 (oi : Int), .int .i64 os, .bool of, .int .i64 on]
          have hkW := (Kept.refl No wr).alloc (.cells #[.bool false, .int .i64 ok, .int .u16 (oi : Int), .int .i64 os, .bool of, .int .i64 on] 32)
          generalize wr.alloc (.cells #[.bool false, .int .i64 ok, .int .u16 (oi : Int), .int .i64 os, .bool of, .int .i64 on] 32) = w0 at *
          generalize wr.heap.size = g at hB0 ⊢
          clear q0 q1 q2 q3 q4 q5
          go_at_call 11
          refine (CF.out _ hkW).mono ?_
          rintro e w2 ⟨ah, ch, rfl, hrh, hk2⟩
          have hkA := hkW.trans hk2
          have hB2 := hB0.kept hk2 (fun f => f)
          have y0b := hB2.cell 0
          have y1b := hB2.cell 1
          have y2b := hB2.cell 2
          have y3b := hB2.cell 3
          have y4b := hB2.cell 4
          have y5b := hB2.cell 5
          simp at y0b y1b y2b y3b y4b y5b
          have ltb := hB2.lt
          go_wp2_with fail
          go_at_call 14
          refine (CO.out _ hkA).mono ?_
          rintro e w3 ⟨au, cu, rfl, htu, hk3⟩
          have hkB := hkA.trans hk3
          have hB3 := hB2.kept hk3 (fun f => f)
          clear y0b y1b y2b y3b y4b y5b
          have y0c := hB3.cell 0
          have y1c := hB3.cell 1
          have y2c := hB3.cell 2
          have y3c := hB3.cell 3
          have y4c := hB3.cell 4
          have y5c := hB3.cell 5
          simp at y0c y1c y2c y3c y4c y5c
          have ltc := hB3.lt
          go_wp2_with fail
          go_at_call 15
          refine (CR.out _ hkB).mono ?_
          rintro e w4 ⟨ax, cx, rfl, htx, hk4⟩
          have hkC := hkB.trans hk4
          clear y0c y1c y2c y3c y4c y5c
          go_wp2_with fail
          go_at_call 11
          refine (from_num au cu M m _ (htu.keptNo hk4).row HMl.out HM.out).mono ?_
          rintro e w5 ⟨af, cf, rfl, hrf, hk5⟩
          go_wp2_with fail
          go_at_call 16
          refine (same_num af ax cf cx M m _ hrf (htx.keptNo hk5).row HMl.out HM.out).mono ?_
          rintro e w6 ⟨rfl, hk6⟩
          have hkE := (hkC.trans hk5).trans hk6
          go_wp2_with fail
          go_at_call 11
          refine (CF.out _ hkE).mono ?_
          rintro e w7 ⟨ag, cg, rfl, hrg, hk7⟩
          go_wp2_with fail
          go_at_call 16
          refine (same_num ag ah cg ch L n _ hrg (hrh.keptNo ((((hk3.trans hk4).trans hk5).trans hk6).trans hk7)) HLl.out HL.out.1).mono ?_
          rintro e w8 ⟨rfl, hk8⟩
          have hkS := ((((hk4.trans hk5).trans hk6).trans hk7).trans hk8)
          have hkT := (((hk5.trans hk6).trans hk7).trans hk8)
          go_wp2_with fail
          go_at_call 8
          refine (right_num au cu M m _ (htu.keptNo hkS).row HMl.out HM.out HMR.out).mono ?_
          rintro e w9 ⟨rfl, hk9⟩
          go_wp2_with fail
          go_at_call 17
          refine (fly_num au cu M m _ ((htu.keptNo hkS).keptNo hk9).row HMl.out HM.out HMR.out).mono ?_
          rintro e wA ⟨rfl, hkAA⟩
          go_wp2_with fail
          go_at_call 18
          refine (rfly_num ax cx M m _ (((htx.keptNo hkT).keptNo hk9).keptNo hkAA).row HMl.out HM.out).mono ?_
          rintro e wB ⟨rfl, hkBB⟩
          have hkZ := (((hkE.trans hk7).trans hk8).trans hk9).trans (hkAA.trans hkBB)
          have hkU := (hkS.trans hk9).trans (hkAA.trans hkBB)
          have hkV := (hkT.trans hk9).trans (hkAA.trans hkBB)
          go_wp2
          go_roundw
          case rel => exact ⟨j + 1, m, cu, cx, au, ax, M, by go_num, rfl, rfl, by omega, by omega, by omega, Lib.hid ⟨HM.out, htu.keptNo hkU, htx.keptNo hkV, HMR.out⟩, hk.trans hkZ⟩
          case measure => simp [intOf]; omega
      · have hjI : ¬ (j : Int) < 100 := by omega
        go_wp2
        go_ret
        exact ⟨rfl, HFIN.out _ hk⟩
    · go_wp2
      go_ret
      exact ⟨rfl, HFIN.out _ hk⟩

end Go.Proofs.Ytlgbljohhnhhkaa
