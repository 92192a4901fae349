/-
  The law PropsEach.
-/
import Derived.Test.YtfhcmmmgnkinoaaDoorPxV
import Derived.Test.YtfhcmmmgnkinoaaDoorPxE
namespace Go.Proofs.YtfhcmmmgnkinoaaDoor
open Go.RowKit
set_option linter.unusedVariables false
set_option linter.unusedSimpArgs false
set_option maxRecDepth 100000

theorem eachM_big (l : List UInt8) (m : Nat) (h : l.length ≤ m) : eachM l m = eachL l := by
  have g : (eachL l).1.length ≤ l.length := each_len l.length l
  unfold eachM
  rw [if_pos (by omega)]
theorem eachM_few (l : List UInt8) (k : Nat) : (eachM l k).1 = (eachL l).1.take (min (eachL l).1.length k) := by
  unfold eachM
  split
  · rw [Nat.min_eq_left (by omega), List.take_length]
  · rw [Nat.min_eq_right (by omega)]
theorem PC_take (L : List Pr) (k : Nat) : PC (L.take k) = (PC L).take (k * 4) := by
  induction L generalizing k with
  | nil => simp
  | cons p L ih =>
    cases k with
    | zero => simp
    | succ k =>
      have e : p.cells.length = 4 := rfl
      rw [List.take_succ_cons, PC_cons, PC_cons, ih, List.take_append, e, show (k + 1) * 4 - 4 = k * 4 by omega, List.take_of_length_le (l := p.cells) (by rw [e]; omega)]
theorem own_cap {w : World} {base n c size : Nat} {e : TypeId} {a : Option Addr} {xs : List Value} (h : w.ownsRow base e size (.slice a n c) n xs) : n ≤ c := by
  rcases h.2 with ⟨hv, h0⟩ | ⟨g, cap, cur, hv, hg, hb, hn, hm, hs, hx⟩
  · injection hv with e1 e2 e3
    omega
  · injection hv with e1 e2 e3
    omega
set_option maxHeartbeats 4000000 in
theorem propsEach_walk (a0 : Option Addr) (len0 cap0 : Nat) (z0 : List Int) (a1 : Int) (w : World) (w0 : IsRow .u8 w a0 len0 cap0 z0) (w1 : (Lit.int .i64 a1).wf = true) (hT : Tabs w) :
    Calls Tryd.prog 5 #[.slice a0 len0 cap0, .int .i64 a1] w fun e w' => e = .returned (.bool true) ∧ Below w.heap.size w w' := by
  obtain ⟨hrow, hlen, hlc, hcm, hn, hwf⟩ := w0.row
  rw [ints_bytes hwf] at hrow
  have hlen' : ((z0.take len0).map byteOf).length = len0 := by simpa using hlen
  generalize (z0.take len0).map byteOf = l at *
  subst hlen'
  clear w0 w1 hwf hlen
  unfold maxLen at hcm
  have hrow2 := hrow.take 300
  rw [← B8_take] at hrow2
  obtain ⟨k, hk, hk5⟩ := law_mod a1 5 (by omega) (by omega)
  obtain ⟨m, hm⟩ : ∃ m, m = min l.length 300 := ⟨_, rfl⟩
  have hmI : min (l.length : Int) 300 = (m : Int) := by omega
  have hm2 : (l.take 300).length = m := by rw [List.length_take]; omega
  have hml : m ≤ l.length := by omega
  have hmw : m ≤ 300 := by omega
  clear hm
  have hmc : m ≤ cap0 := by omega
  have hn2 : a0 = none → (l.take 300).length = 0 ∧ cap0 = 0 := fun h => by have := hn h; rw [hm2]; omega
  generalize l.take 300 = s at *
  have C1 := fun wx (hx : Tabs wx) hr => leach_any a0 cap0 s 1000 wx hr hn2 (by omega) (by omega) hx
  have C2 := fun wx (hx : Tabs wx) hr => leach_any a0 cap0 s k wx hr hn2 (by omega) (by omega) hx
  have C3 := fun wx => reach_any wx ⟨s.toArray⟩ (by rw [ba_size]; omega)
  dsimp only at C3
  rw [hm2] at C1 C2
  unfold LEachIs at C1 C2
  rw [eachM_big s 1000 (by omega)] at C1
  have hEl : (eachL s).1.length ≤ s.length := each_len s.length s
  have hEk := eachM_few s k
  have hkl : (eachM s k).1.length ≤ 300 := by rw [hEk, List.length_take]; omega
  unfold REachIs at C3
  generalize eachM s k = EK at *
  generalize hE : eachL s = E at *
  obtain ⟨L, ok⟩ := E
  obtain ⟨LK, okk⟩ := EK
  dsimp only at C1 C2 C3 hEl hEk hkl
  have H1 := Lib.hid C1
  have H2 := Lib.hid C2
  have H3 := Lib.hid C3
  have HEK := Lib.hid hEk
  clear C1 C2 C3 hEk hE
  have HN := Lib.hid hn2
  clear hn hn2
  have hs : ∀ wx, Kept No w wx → (convert 25 9 (.slice a0 m cap0)).run Tryd.prog wx = .ok (.string ⟨s.toArray⟩) wx := by
    have := cv33 hrow2 HN.out
    rw [hm2] at this
    exact this
  have HCV := Lib.hid hs
  clear hs
  have hmc2 : (m : Int) ≤ cap0 := by omega
  have hm0 : (0 : Int) ≤ m := by omega
  go_enter Tryd.func5, Tryd.ntmps5
  go_wp2_with fail
  go_at_call 25
  refine (H1.out w hT hrow2).mono ?_
  rintro e w1 ⟨b1, d1, rfl, hr1, hn1, hk1⟩
  have hcv := HCV.out w1 hk1
  go_wp2_with fail
  go_at_call 26
  refine (H3.out w1).mono ?_
  rintro e w2 ⟨b2, d2, rfl, hown2, hk2⟩
  have kw2 := hk1.trans hk2
  clear hcv
  go_wp2_with fail
  go_at_call 25
  refine (H2.out w2 (hT.kept kw2) (hrow2.keptNo kw2)).mono ?_
  rintro e w3 ⟨b3, d3, rfl, hr3, hn3, hk3⟩
  have kw3 := kw2.trans hk3
  go_wp2_with fail
  go_at_call 11
  refine (told6_any w3 (hT.kept kw3)).mono ?_
  rintro e w4 ⟨rfl, hk4⟩
  have kw4 := kw3.trans hk4
  have hbo := beq_self_b ok
  obtain ⟨q1, q2⟩ := own_row hown2
  go_wp2_with fail
  go_at_call 19
  refine (rsame_any b1 d1 L b2 d2 L w4 ((hr1.keptNo hk2).keptNo (hk3.trans hk4)) (q1.keptNo (hk3.trans hk4)) (by omega) (by omega)).mono ?_
  rintro e w5 ⟨rfl, hk5⟩
  have hdd : decide (L = L) = true := by simp
  have hcap := own_cap hown2
  obtain ⟨j, hj⟩ : ∃ j, j = min L.length k := ⟨_, rfl⟩
  have hjI : min (L.length : Int) (k : Int) = (j : Int) := by omega
  have hj0 : (0 : Int) ≤ j := by omega
  have hjc : (j : Int) ≤ d2 := by omega
  have HLJ : Hid (LK = L.take j ∧ (L.take j).length = j) := Lib.hid ⟨by rw [hj]; exact HEK.out, by rw [List.length_take]; omega⟩
  have hjL : j ≤ L.length := by omega
  clear hj
  go_wp2_with fail
  go_at_call 19
  have q4 := ((q1.keptNo (hk3.trans hk4)).keptNo hk5).take (j * 4)
  rw [← PC_take] at q4
  have c := rsame_any b3 d3 LK b2 d2 (L.take j) w5 ((hr3.keptNo hk4).keptNo hk5) q4 (by omega) (by rw [HLJ.out.2]; omega)
  rw [HLJ.out.2, decide_eq_true HLJ.out.1] at c
  refine c.mono ?_
  rintro e w6 ⟨rfl, hk6⟩
  go_wp2
  go_ret
  exact ⟨rfl, ((kw4.trans hk5).trans hk6).below (Nat.le_refl _) (fun _ _ f => f)⟩

end Go.Proofs.YtfhcmmmgnkinoaaDoor
