/-
  PropsTakes' walk.
-/
import Derived.Test.YtfcgfkgibimffaaDoorZPpW
import Derived.Test.YtfcgfkgibimffaaDoorYF4
namespace Go.Proofs.YtfcgfkgibimffaaDoor
open Go.RowKit
set_option linter.unusedVariables false
set_option linter.unusedSimpArgs false
set_option maxRecDepth 100000

theorem Row.notByte {w w' : World} {r : Nat} {a : Option Addr} {L : List Pr} (h : Row w a (PC L)) (hb : NoByte w r) (hk : Kept (One r) w w') : Row w' a (PC L) := h.kept hk (fun b off ha hne e => by
  cases L with
  | nil => exact hne rfl
  | cons p t =>
    obtain ⟨b', off', ha', _, q, _⟩ := h.prop (k := 0) (by simp)
    rw [ha] at ha'
    injection ha' with ha'
    injection ha' with e1 e2 _
    have e3 : b = r := e
    subst e1 e2 e3
    exact hb _ _ q)
theorem take_canon {s : List UInt8} (hl : s.length ≤ 100000) (h : (takeR s 0).2 = true) : (∀ p ∈ (takeR s 0).1, p.wf') ∧ (putL [] (takeR s 0).1).length + (takeLeft s 0).length = s.length ∧ takeErr s 0 = 0 := by
  by_cases he : takeErr s 0 = 0
  case neg =>
    unfold takeR at h
    rw [if_neg he] at h
    cases h
  by_cases hk : (eachL (takeSec s 0)).2 = true
  case neg =>
    unfold takeR at h
    rw [if_pos he, if_neg hk] at h
    cases h
  have hR : takeR s 0 = (sortL (eachL (takeSec s 0)).1, true) := by unfold takeR; rw [if_pos he, if_pos hk]
  obtain ⟨e1, e2⟩ := each_inv (takeSec s 0).length (takeSec s 0) (Nat.le_refl _) hk
  obtain ⟨t1, t2⟩ := take_inv he
  have hw : ∀ p ∈ sortL (eachL (takeSec s 0)).1, p.wf' := fun p hp => (e2 p (sortL_mem.1 hp)).2.wf'
  have hok : ∀ p ∈ sortL (eachL (takeSec s 0)).1, p.ok = true := fun p hp => (e2 p (sortL_mem.1 hp)).1
  have hlen : (layAll (sortL (eachL (takeSec s 0)).1)).length = (takeSec s 0).length := by
    rw [layAll_sort, ← e1]
  have hgo := lenGo_all (sortL (eachL (takeSec s 0)).1) 0 hw hok (by omega)
  rw [Nat.zero_add] at hgo
  rw [hR]
  refine ⟨hw, ?_, he⟩
  have hp : putL [] (sortL (eachL (takeSec s 0)).1) = varL (takeSec s 0).length ++ layAll (sortL (eachL (takeSec s 0)).1) := by
    unfold putL
    rw [hgo, hlen]
    simp [addVar]
  rw [hp, List.length_append, hlen]
  conv => rhs; rw [t1]
  simp
  omega
set_option maxHeartbeats 8000000 in
theorem propsTakes_walk (a0 : Option Addr) (len0 cap0 : Nat) (z0 : List Int) (w : World) (w0 : IsRow .u8 w a0 len0 cap0 z0) (hT : Tabs w) :
    Calls Tryd.prog 4 #[.slice a0 len0 cap0] w fun e w' => e = .returned (.bool true) ∧ Below w.heap.size w w' := by
  obtain ⟨i0, hi, hz0, hz1, hz2⟩ := info_parts info_u8
  obtain ⟨hrow, hlen, hlc, hcm, hn, hwf⟩ := w0.row
  rw [ints_bytes hwf] at hrow
  have hlen' : ((z0.take len0).map byteOf).length = len0 := by simpa using hlen
  generalize (z0.take len0).map byteOf = l at *
  subst hlen'
  clear w0 hwf hlen
  unfold maxLen at hcm
  have hrow2 := hrow.take 300
  rw [← B8_take] at hrow2
  obtain ⟨m, hm⟩ : ∃ m, m = min l.length 300 := ⟨_, rfl⟩
  have hmI : min (l.length : Int) 300 = (m : Int) := by omega
  have hm2 : (l.take 300).length = m := by rw [List.length_take]; omega
  have hml : m ≤ l.length := by omega
  have hmw : m ≤ 300 := by omega
  clear hm
  have hmc : m ≤ cap0 := by omega
  have hn2 : a0 = none → m = 0 ∧ cap0 = 0 := fun h => by have := hn h; omega
  generalize l.take 300 = s at *
  have HM2 := Lib.hid hm2
  have HN := Lib.hid hn2
  have hr := hrow2
  have HCV : Hid (∀ (a : Option Addr) (c : Nat) (wx : World), Row wx a (B8 s) → (a = none → m = 0 ∧ c = 0) → (convert 25 9 (.slice a m c)).run Tryd.prog wx = .ok (.string ⟨s.toArray⟩) wx) := Lib.hid (fun a c wx h1 h2 => by have := cv33 (c := c) h1 (fun h => by have := h2 h; omega) wx (Kept.refl _ _); rwa [hm2] at this)
  have HCN := Lib.hid (fun h => take_canon (s := s) (by omega) h)
  have HTL : Hid ((takeR s 0).1.length ≤ m) := Lib.hid (by have h1 := takeR_len s 0; have h2 := takeSec_len s 0; omega)
  have HPT := Lib.hid (fun (wx : World) (r : Nat) (hx : Rdr wx r s 0) (ht : Tabs wx) => ptake_any wx r s 0 hx (by omega) ht (fun _ _ => sort_any _ (by have h3 := each_len (takeSec s 0).length (takeSec s 0); have h4 := takeSec_len s 0; unfold eachL; omega)))
  have HRT := Lib.hid (fun (wx : World) (r : Nat) (B : ByteArray) (hx : RefR wx r B s 0) => rtake6_any wx r B s 0 hx (by omega))
  unfold TakeIs at HPT
  unfold RTakeIs at HRT
  generalize hTR : takeR s 0 = TR at *
  obtain ⟨L, ok⟩ := TR
  dsimp only at HPT HRT HCN HTL
  have hL3 : L.length ≤ 300 := by have := HTL.out; omega
  have HPU := Lib.hid (fun (a9 : Option Addr) (c9 : Nat) (wx : World) (hw : ∀ p ∈ L, p.wf') (h2 : Row wx a9 (PC L)) h3 => put_any none 0 [] a9 c9 L wx (.nil _ _) (by simp) (by simp) h2 (by omega) hw h3)
  obtain ⟨q, hq⟩ : ∃ q, q = (putL [] L).length := ⟨_, rfl⟩
  obtain ⟨t, ht⟩ : ∃ t, t = (takeLeft s 0).length := ⟨_, rfl⟩
  obtain ⟨nL, hnL⟩ : ∃ nL, nL = L.length := ⟨_, rfl⟩
  have HPU2 : Hid (∀ (a9 : Option Addr) (c9 : Nat) (wx : World), (∀ p ∈ L, p.wf') → Row wx a9 (PC L) → Tabs wx → Calls Tryd.prog 12 #[.slice none 0 0, .slice a9 nL c9] wx fun e w' => ∃ a' c', e = .returned (.slice a' q c') ∧ Kept No wx w') := Lib.hid (fun a9 c9 wx h1 h2 h3 => by
    have := HPU.out a9 c9 wx h1 h2 h3
    rw [hnL]
    exact this.mono fun e w' ⟨a', c', q1, q2, q3⟩ => ⟨a', c', by rw [q1, hq], q3⟩)
  have HLF : Hid (∀ (wx : World) (r : Nat) (e2 : Int), Rdr wx r (takeLeft s 0) e2 → Calls Tryd.prog 22 #[.pointer (some ⟨r, 0, none⟩)] wx fun e w' => e = .returned (.int .i64 t) ∧ wx = w') := Lib.hid (fun wx r e2 hx => by rw [ht]; exact left_any wx r _ e2 hx)
  have HSM : Hid (∀ (a : Option Addr) (c : Nat) (a' : Option Addr) (c' : Nat) (wx : World), Row wx a (PC L) → Row wx a' (PC L) → Calls Tryd.prog 19 #[.slice a nL c, .slice a' nL c'] wx fun e w' => e = .returned (.bool true) ∧ Kept No wx w') := Lib.hid (fun a c a' c' wx h1 h2 => by have := rsame_any a c L a' c' L wx h1 h2 (by omega) (by omega); rw [decide_eq_true rfl, ← hnL] at this; exact this)
  have HFR : Hid (∀ (a : Option Addr) (c : Nat) (wx : World), Row wx a (PC L) → Calls Tryd.prog 20 #[.slice a nL c] wx fun e w' => ∃ a' c', e = .returned (.slice a' nL c') ∧ Row w' a' (PC L) ∧ Kept No wx w') := Lib.hid (fun a c wx h1 => by have := fromlist_any a c L wx h1 (by omega); rw [← hnL] at this; exact this.mono fun e w' ⟨a', c', h1, h2, h3⟩ => ⟨a', c', by rw [h1, hnL], (own_row h2).1, h3⟩)
  rw [← hnL] at HPT HRT
  have HQT : Hid (ok = true → (∀ p ∈ L, p.wf') ∧ q + t = m) := Lib.hid (fun h => by have := HCN.out h; exact ⟨this.1, by have h2 := this.2.1; rw [HM2.out] at h2; omega⟩)
  have hnL3 : nL ≤ 300 := by omega
  clear HPU HCN HTL hq ht hnL hTR hn hn2 hm2 hrow hL3 hrow2
  have hlI : (l.length : Int) ≤ 9223372036854775807 := by omega
  have hmI0 : (0 : Int) ≤ m := by omega
  have hmcI : (m : Int) ≤ cap0 := by omega
  have HHW := Lib.hid (hr.keptNo ((Kept.refl No w).alloc (.cells #[] 5)))
  have HB8 : Hid ((B8 s).length = m) := Lib.hid (by rw [B8_length]; exact HM2.out)
  go_enter Tryd.func4, Tryd.ntmps4
  go_wp2_with (at_builtin; refine wpList_append_row _ rfl _ _ _ rfl w.heap.size 5 i0 _ 1 Tryd.underlying25 hi hz0 hz1 hz2 rfl _ _ _ rfl (own_empty w _ _ (Nat.le_refl _)) a0 m cap0 (B8 s) rfl HB8.out HHW.out (fun h => (HN.out h).2) (B8_one _) ?c1 ?c2 ?c3 ?_; rotate_right; intro v1 w1 hown1 hg1 hv1)
  case c1 => unfold maxLen; omega
  case c2 => omega
  case c3 => simp
  have hk1 : Kept No w w1 := ((Kept.refl No w).alloc _).grown hg1 (own_no (own_empty w _ 5 (Nat.le_refl _)))
  rw [List.nil_append, Nat.zero_add] at hown1
  obtain ⟨a1, c1, rfl, hr1, hn1⟩ := own_form hown1
  have hr01 := hr.keptNo hk1
  have hT1 := hT.kept hk1
  clear hown1 hg1 hv1
  go_wp2_with fail
  go_at_call 16
  refine (read_at a1 c1 m s HM2 w1 hr1 (fun h => (hn1 h).2) (by have := HM2.out; omega)).mono ?_
  rintro e w2 ⟨rd, rfl, hrd, hR, hk2⟩
  have hr12 := hr1.keptNo hk2
  have hr02 := hr01.keptNo hk2
  have hc2 := HCV.out a0 cap0 w2 hr02 HN.out
  have hzrd := hR.lt
  have hT2 := hT1.kept hk2
  have hk02 := hk1.trans hk2
  go_wp2_with fail
  go_at_call 18
  have hrf : RefR (w2.alloc (.cells #[.string ⟨s.toArray⟩, .int .i64 0, .int .i64 0] 45)) w2.heap.size ⟨s.toArray⟩ s 0 := ⟨0, Blk.new _ _ _, by omega, by have := HM2.out; simp [ByteArray.size]; omega, by simp, by simp⟩
  have hk3 : Kept No w2 (w2.alloc (.cells #[.string ⟨s.toArray⟩, .int .i64 0, .int .i64 0] 45)) := (Kept.refl No w2).alloc _
  clear hc2
  generalize w2.alloc (.cells #[.string ⟨s.toArray⟩, .int .i64 0, .int .i64 0] 45) = w3 at *
  have hR3 := hR.keptNo hk3
  have hT3 := hT2.kept hk3
  refine (HPT.out w3 rd hR3 hT3).mono ?_
  rintro e w4 ⟨a4, c4, rfl, hr4, hn4, ha4⟩
  have hne : w2.heap.size ≠ rd := by omega
  have hrf4 := hrf.kept ha4.kept (fun e => hne e)
  have hT4 := hT3.keptRdr hR3 ha4.kept
  have hk3' := hk3.trans (Kept.refl No w3)
  have hr13 := hr12.keptNo hk3
  have hr03 := hr02.keptNo hk3
  have hr14 := hr1.past (by omega) hr13 ha4.kept
  have hr04 := hr01.past (by omega) hr03 ha4.kept
  have hR4 := ha4.rdr
  have hk34 := ha4.kept
  clear hR3 hT3 hrf hR ha4 hT2 hT1 hr12 hr02 hr13 hr03
  go_wp2_with fail
  go_at_call 24
  refine (HRT.out w4 w2.heap.size ⟨s.toArray⟩ hrf4).mono ?_
  rintro e w5 ⟨a5, c5, rfl, hr5, hn5, ha5⟩
  have hz2 : w1.heap.size ≤ w2.heap.size := hk2.size
  have hr15 := hr1.past hz2 hr14 ha5.kept
  have hr05 := hr01.past hz2 hr04 ha5.kept
  have hr45 := hr4.notByte hrf4.noByte ha5.kept
  have hR5 : Rdr w5 rd (takeLeft s 0) (takeErr s 0) := hR4.keptTyp ha5.kept (fun e => hne e.symm) (fun b hS cs fz hx => by
    obtain ⟨at_, hb, _⟩ := hrf4
    have : b = w2.heap.size := hS
    subst this
    unfold Blk at hb
    rw [hb] at hx
    injection hx with hx
    injection hx with _ hx _
    exact absurd hx (by decide))
  have hT5 : Tabs w5 := Tabs.keptS hT hT4 ha5.kept (fun k e => by have : k = w2.heap.size := e; have := hk02.size; omega)
  have hkw5 : Kept (fun k => k = rd ∨ k = w2.heap.size) w3 w5 := (hk34.mono (fun k _ e => .inl e)).trans (ha5.kept.mono (fun k _ e => .inr e))
  clear hR4 hT4 hrf4 hr14 hr04 ha5 hr4 hk34 hk3' hr01 hr1
  go_wp2_with fail
  go_at_call 11
  refine (told6_any w5 hT5).mono ?_
  rintro e w6 ⟨rfl, hk6⟩
  have hT6 := hT5.kept hk6
  have hbk := beq_self_b ok
  have hbn : (ok != ok) = false := by cases ok <;> rfl
  have hr16 := hr15.keptNo hk6
  have hr06 := hr05.keptNo hk6
  have hr46 := hr45.keptNo hk6
  have hr56 := hr5.keptNo hk6
  have hR6 := hR5.keptNo hk6
  go_wp2_with fail
  go_at_call 20
  refine (HFR.out a4 c4 w6 hr46).mono ?_
  rintro e w7 ⟨a7, c7, rfl, hr7, hk7⟩
  go_wp2_with fail
  go_at_call 19
  refine (HSM.out a7 c7 a5 c5 w7 hr7 (hr56.keptNo hk7)).mono ?_
  rintro e w8 ⟨rfl, hk8⟩
  have hk68 := hk7.trans hk8
  have hr18 := hr16.keptNo hk68
  have hr08 := hr06.keptNo hk68
  have hr48 := hr46.keptNo hk68
  have hR8 := hR6.keptNo hk68
  have hT8 := hT6.kept hk68
  have hq1 := HCV.out a1 c1 w8 hr18 hn1
  have hq0 := HCV.out a0 cap0 w8 hr08 HN.out
  have hk38 : Kept (fun k => k = rd ∨ k = w2.heap.size) w3 w8 := hkw5.trans (hk6.trans hk68).any
  clear hk6 hk7 hk8 hk68 hr16 hr06 hr46 hR6 hT6 hr56 hr7 hR5 hT5 hr15 hr05 hr45 hr5 hkw5
  cases ok with
  | false =>
    go_wp2
    go_ret
    exact ⟨rfl, ((hk02.any.trans hk3.any).trans hk38).below (Nat.le_refl _) (fun k hk e => by have := hk1.size; rcases e with e | e <;> omega)⟩
  | true =>
    obtain ⟨hw, hqt⟩ := HQT.out rfl
    have hmt : (m : Int) - (q : Int) = (t : Int) := by omega
    have hqm : (q : Int) ≤ (m : Int) := by omega
    have hqb : (q : Int) ≤ 300 := by omega
    have HW := Lib.hid hw
    clear hqt hw
    go_wp2_with fail
    go_at_call 12
    clear hq1 hq0
    refine (HPU2.out a4 c4 w8 HW.out hr48 hT8).mono ?_
    rintro e w9 ⟨a9, c9, rfl, hk9⟩
    have HL9 := Lib.hid (HLF.out w9 rd _ (hR8.keptNo hk9))
    go_wp2_with (go_at_call 22; refine HL9.out.mono ?_; rintro e x4 ⟨rfl, rfl⟩)
    go_ret
    exact ⟨rfl, (((hk02.any.trans hk3.any).trans hk38).trans hk9.any).below (Nat.le_refl _) (fun k hk e => by have := hk1.size; rcases e with e | e <;> omega)⟩

end Go.Proofs.YtfcgfkgibimffaaDoor
