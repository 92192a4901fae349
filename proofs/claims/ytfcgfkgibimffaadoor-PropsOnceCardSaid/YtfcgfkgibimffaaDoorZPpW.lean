/-
  PropsPuts' walk.
-/
import Derived.Test.YtfcgfkgibimffaaDoorZPtA
import Derived.Test.YtfcgfkgibimffaaDoorYF9
namespace Go.Proofs.YtfcgfkgibimffaaDoor
open Go.RowKit
set_option linter.unusedVariables false
set_option linter.unusedSimpArgs false
set_option maxRecDepth 100000

theorem lay_small {p : Pr} (ha : p.a.size ≤ 200) (hb : p.b.size ≤ 200) : p.lay.length ≤ 410 := by
  have h4 := varL_le p.n
  show (layP p.id p.n p.a p.b).length ≤ 410
  unfold layP
  repeat' split
  all_goals first | (rw [addByte_len]; simp; done) | (rw [addTwo_len]; simp; done) | (rw [addFour_len]; simp; done) | (rw [addVar_len]; simp; omega) | (rw [addBin_len, addBin_len]; simp; omega) | (rw [addBin_len]; simp; omega)
theorem layAll_small : ∀ (L : List Pr), (∀ p ∈ L, p.a.size ≤ 200 ∧ p.b.size ≤ 200) → (layAll L).length ≤ 410 * L.length
  | [], _ => by simp [layAll]
  | p :: L, h => by
    have h1 := lay_small (h p (by simp)).1 (h p (by simp)).2
    have h2 := layAll_small L (fun q hq => h q (by simp [hq]))
    rw [show layAll (p :: L) = p.lay ++ layAll L from rfl, List.length_append, List.length_cons]
    omega
theorem Row.past {w w' w'' : World} {r : Nat} {a : Option Addr} {xs : List Value} (h : Row w a xs) (hr : w.heap.size ≤ r) (h' : Row w' a xs) (hk : Kept (One r) w' w'') : Row w'' a xs := h'.kept hk (fun b off ha hne e => by
  rcases h with h | ⟨b', off', ha', hb', _⟩
  · exact hne h
  · rw [ha] at ha'
    injection ha' with ha'
    injection ha' with e1 _ _
    have : b = r := e
    omega)
theorem nine_row (w : World) : Row (w.alloc (.cells #[.int .u8 9] 5)) (some ⟨w.heap.size, 0, none⟩) (B8 [9]) := .of_cells (new_cells w 5 [.int .u8 9] _ rfl)
set_option maxHeartbeats 8000000 in
theorem propsPuts_walk (a1 : Option Addr) (len1 cap1 : Nat) (z1 : List Pr) (w : World) (w1 : IsProps w a1 len1 cap1 z1) (hT : Tabs w) :
    Calls Tryd.prog 3 #[.slice a1 len1 cap1] w fun e w' => e = .returned (.bool true) ∧ Below w.heap.size w w' := by
  obtain ⟨rfl, hr, hle, hcap, hnil, hwf⟩ := w1
  unfold maxLen at hcap hwf
  have HF := Lib.hid (fewp_any a1 cap1 z1 w hr (by omega) (fun p hp => by have := hwf p hp; omega))
  have HW := Lib.hid (fun p hp => (⟨(hwf p hp).1, (hwf p hp).2.1⟩ : p.id < 256 ∧ p.n < 4294967296))
  have HN := Lib.hid hnil
  clear hwf hle hcap hnil
  go_enter Tryd.func3, Tryd.ntmps3
  go_wp2_with fail
  go_at_call 10
  refine HF.out.mono ?_
  rintro e wf ⟨bf, rfl, hfew, hk1⟩
  have hTf := hT.kept hk1
  cases bf with
  | false =>
    go_wp2_with (go_at_call 11; refine (told6_any wf hTf).mono ?_; rintro e w4 ⟨rfl, hk4⟩)
    go_ret
    exact ⟨rfl, (hk1.trans hk4).below (Nat.le_refl _) (fun _ _ f => f)⟩
  | true =>
  have hfw := hfew rfl
  have HFW := Lib.hid hfw
  have hlen : z1.length ≤ 30 := hfw.1
  have hwf' := hfw.wf HW.out
  have HWF := Lib.hid hwf'
  have hla : (layAll z1).length ≤ 12300 := by have := layAll_small z1 hfw.2; omega
  have hrf := hr.keptNo hk1
  have HTO : Hid (∀ wx, Row wx a1 (PC z1) → Calls Tryd.prog 13 #[.slice a1 z1.length cap1] wx fun e w' => ∃ a c, e = .returned (.slice a z1.length c) ∧ Row w' a (PC z1) ∧ Kept No wx w') := Lib.hid (fun wx h => (tolist_any a1 cap1 z1 wx h (by omega)).mono fun e w' ⟨a, c, h1, h2, h3⟩ => ⟨a, c, h1, (own_row h2).1, h3⟩)
  have HPU := Lib.hid (fun (a : Option Addr) (c : Nat) (a9 : Option Addr) (c9 : Nat) (wx : World) (h1 : Row wx a (B8 [9])) (hn : a = none → ([9] : List UInt8).length = 0 ∧ c = 0) h2 h3 => put_any a c [9] a9 c9 z1 wx h1 hn (by simp) h2 (by omega) hwf' h3)
  have HRP := Lib.hid (fun (a : Option Addr) (c : Nat) (wx : World) (h1 : Row wx a (B8 [9])) (hn : a = none → ([9] : List UInt8).length = 0 ∧ c = 0) h2 => rput_any a c [9] a1 cap1 z1 wx h1 hn (by simp) h2 (by omega) hwf')
  have HSI := Lib.hid (fun (a9 : Option Addr) (c9 : Nat) (wx : World) h2 h3 => psize_any a9 c9 z1 wx h2 (by omega) hwf' h3)
  clear hfew hfw
  obtain ⟨PL, hPL⟩ : ∃ PL, PL = putL [9] z1 := ⟨_, rfl⟩
  obtain ⟨SZ, hSZ⟩ : ∃ SZ, SZ = sizeR z1 := ⟨_, rfl⟩
  obtain ⟨m, hm⟩ : ∃ m, m = PL.length := ⟨_, rfl⟩
  obtain ⟨ok, hok⟩ : ∃ ok, ok = (lenGo z1 0).isSome := ⟨_, rfl⟩
  have HP2 : Hid (∀ (a : Option Addr) (c : Nat) (a9 : Option Addr) (c9 : Nat) (wx : World), Row wx a (B8 [9]) → (a = none → ([9] : List UInt8).length = 0 ∧ c = 0) → Row wx a9 (PC z1) → Tabs wx → Calls Tryd.prog 12 #[.slice a 1 c, .slice a9 z1.length c9] wx fun e w' => ∃ a' c', e = .returned (.slice a' m c') ∧ Row w' a' (B8 PL) ∧ (a' = none → m = 0 ∧ c' = 0) ∧ Kept No wx w') := Lib.hid (fun a c a9 c9 wx h1 h2 h3 h4 => (HPU.out a c a9 c9 wx h1 h2 h3 h4).mono fun e w' ⟨a', c', q1, q2, q3⟩ => by
    rw [← hPL, ← hm] at q1 q2
    exact ⟨a', c', q1, (own_row q2).1, (own_row q2).2, q3⟩)
  have HR2 : Hid (∀ (a : Option Addr) (c : Nat) (wx : World), Row wx a (B8 [9]) → (a = none → ([9] : List UInt8).length = 0 ∧ c = 0) → Row wx a1 (PC z1) → Calls Tryd.prog 14 #[.slice a 1 c, .slice a1 z1.length cap1] wx fun e w' => ∃ a' c', e = .returned (.tuple #[.slice a' m c', .bool ok]) ∧ Row w' a' (B8 PL) ∧ (a' = none → m = 0 ∧ c' = 0) ∧ Kept No wx w') := Lib.hid (fun a c wx h1 h2 h3 => (HRP.out a c wx h1 h2 h3).mono fun e w' ⟨a', c', q1, q2, q3, q4⟩ => by
    rw [← hPL] at q1 q2
    rw [← hm, ← hok] at q1
    refine ⟨a', c', q1, q2, fun h => ⟨?_, q3 h⟩, q4⟩
    rcases q2 with h9 | ⟨_, _, h9, _⟩
    · have : (B8 PL).length = 0 := by rw [h9]; rfl
      rw [B8_length] at this
      omega
    · rw [h] at h9; cases h9)
  rw [← hSZ] at HSI
  have HMM : Hid (PL.length = m) := Lib.hid hm.symm
  have HCV : Hid (∀ (a : Option Addr) (c : Nat) (wx : World), Row wx a (B8 PL) → (a = none → m = 0 ∧ c = 0) → (convert 25 9 (.slice a m c)).run Tryd.prog wx = .ok (.string ⟨PL.toArray⟩) wx) := Lib.hid (fun a c wx h1 h2 => by have := cv33 (c := c) h1 (fun h => by have := h2 h; omega) wx (Kept.refl _ _); rwa [← hm] at this)
  have HOK : Hid ((ok = false ∧ SZ = 0) ∨ (ok = true ∧ m = SZ + 1 ∧ SZ ≤ 20000 ∧ ∃ n, PL = [9] ++ (varL n ++ layAll z1) ∧ takeR (varL n ++ layAll z1) 0 = (sortL z1, true) ∧ takeLeft (varL n ++ layAll z1) 0 = [] ∧ takeErr (varL n ++ layAll z1) 0 = 0 ∧ takeSec (varL n ++ layAll z1) 0 = layAll z1)) := Lib.hid (by
    rcases hG : lenGo z1 0 with _ | n
    · left
      exact ⟨by rw [hok, hG]; rfl, by rw [hSZ]; unfold sizeR; rw [hG]⟩
    · right
      obtain ⟨t1, t2, t3, t4, t5⟩ := take_put (L := z1) (n := n) [9] [] hwf' hG
      simp only [List.append_nil] at t1 t2 t3 t4 t5
      obtain ⟨_, l2, l3⟩ := lenGo_some z1 0 n hwf' hG (by omega)
      have hv := varL_le n
      have hsz : SZ = (varL n).length + n := by rw [hSZ]; unfold sizeR; rw [hG]
      refine ⟨by rw [hok, hG]; rfl, ?_, by omega, n, by rw [hPL]; exact t1, t2, t3, t4, t5⟩
      rw [hm, hPL, t1]
      simp
      omega)
  clear hPL hSZ hm hok HPU HRP hwf'
  go_wp2_with fail
  go_at_call 13
  have hka : Kept No wf (wf.alloc (.cells #[.int .u8 9] 5)) := (Kept.refl No wf).alloc _
  have hra := nine_row wf
  generalize wf.alloc (.cells #[.int .u8 9] 5) = wa at *
  refine (HTO.out wa (hrf.keptNo hka)).mono ?_
  rintro e wt ⟨a5, c5, rfl, hr5, hk2⟩
  have hTt := (hTf.kept hka).kept hk2
  go_wp2_with fail
  go_at_call 12
  refine (HP2.out (some ⟨wf.heap.size, 0, none⟩) 1 a5 c5 wt (hra.keptNo hk2) (by simp) hr5 hTt).mono ?_
  rintro e wp ⟨a6, c6, rfl, hr6, hn6, hk3⟩
  have hrp := ((hrf.keptNo hka).keptNo hk2).keptNo hk3
  go_wp2_with fail
  go_at_call 14
  have hkb : Kept No wp (wp.alloc (.cells #[.int .u8 9] 5)) := (Kept.refl No wp).alloc _
  have hrb := nine_row wp
  generalize hwb : wp.alloc (.cells #[.int .u8 9] 5) = wb at *
  refine (HR2.out (some ⟨wp.heap.size, 0, none⟩) 1 wb hrb (by simp) (hrp.keptNo hkb)).mono ?_
  rintro e wq ⟨a7, c7, rfl, hr7, hn7, hk4⟩
  clear hwb
  have hr6q := (hr6.keptNo hkb).keptNo hk4
  have hTq := ((hTt.kept hk3).kept hkb).kept hk4
  have hrq := (hrp.keptNo hkb).keptNo hk4
  have hkq := (((((hk1.trans hka).trans hk2).trans hk3).trans hkb).trans hk4)
  go_wp2_with fail
  go_at_call 11
  refine (told6_any wq hTq).mono ?_
  rintro e wr ⟨rfl, hk5⟩
  have hTr := hTq.kept hk5
  have hrr := hrq.keptNo hk5
  have hr6r := hr6q.keptNo hk5
  have hc6 := HCV.out a6 c6 wr hr6r hn6
  have hc7 := HCV.out a7 c7 wr (hr7.keptNo hk5) hn7
  clear hk1 hka hra hk2 hk3 hkb hrb hr5 hr6 hrp hr7 hr6q hTt hTf hrf hr hT
  rcases HOK.out with ⟨rfl, rfl⟩ | ⟨rfl, hmz, hsz, n, hPLn, t2, t3, t4, t5⟩
  · clear HOK
    go_wp2_with fail
    go_at_call 13
    refine (HTO.out wr hrr).mono ?_
    rintro e ws ⟨a8, c8, rfl, hr8, hk6⟩
    clear hc6 hc7
    go_wp2_with fail
    go_at_call 15
    refine (HSI.out a8 c8 ws hr8 (hTr.kept hk6)).mono ?_
    rintro e wv ⟨rfl, hk7⟩
    go_wp2
    go_ret
    exact ⟨rfl, (((hkq.trans hk5).trans hk6).trans hk7).below (Nat.le_refl _) (fun _ _ f => f)⟩
  · have HT5 : Hid (PL = [9] ++ (varL n ++ layAll z1) ∧ takeR (varL n ++ layAll z1) 0 = (sortL z1, true) ∧ takeLeft (varL n ++ layAll z1) 0 = [] ∧ takeErr (varL n ++ layAll z1) 0 = 0 ∧ takeSec (varL n ++ layAll z1) 0 = layAll z1) := Lib.hid ⟨hPLn, t2, t3, t4, t5⟩
    have hm1 : (m : Int) - 1 = (SZ : Int) := by omega
    have HMZ := Lib.hid hmz
    have hmb : (m : Int) ≤ 20001 := by omega
    clear HOK hPLn t2 t3 t4 t5 hmz
    go_wp2_with fail
    go_at_call 13
    refine (HTO.out wr hrr).mono ?_
    rintro e ws ⟨a8, c8, rfl, hr8, hk6⟩
    clear hc6 hc7
    go_wp2_with fail
    go_at_call 15
    refine (HSI.out a8 c8 ws hr8 (hTr.kept hk6)).mono ?_
    rintro e wv ⟨rfl, hk7⟩
    have hr6v := (hr6r.keptNo hk6).keptNo hk7
    have hTv := (hTr.kept hk6).kept hk7
    have hrv := (hrr.keptNo hk6).keptNo hk7
    have hkv := ((hkq.trans hk5).trans hk6).trans hk7
    clear hk5 hk6 hk7 hkq hr6r hTr hrr
    go_wp2_with fail
    go_at_call 16
    refine (read_at a6 c6 m PL HMM wv hr6v (fun h => (hn6 h).2) (by have := HMM.out; omega)).mono ?_
    rintro e wy ⟨rd, rfl, hrd, hR, hk8⟩
    have hTy := hTv.kept hk8
    have hryy := hrv.keptNo hk8
    have hky := hkv.trans hk8
    have HNX : Hid (leftL 1 PL 0 = varL n ++ layAll z1 ∧ leftE 1 PL 0 = 0) := Lib.hid (by rw [HT5.out.1]; exact ⟨(one_cons 9 _).2.1, (one_cons 9 _).2.2⟩)
    have hcB := rbyte_any wy rd PL 0 hR
    rw [HNX.out.1, HNX.out.2] at hcB
    have HCB := Lib.hid hcB
    have hwr : w.heap.size ≤ rd := by have := hkv.size; omega
    clear hcB hk8 hkv hTv
    have hrdlt := hR.lt
    go_wp2_with fail
    go_at_call 17
    refine HCB.out.mono ?_
    rintro e wz ⟨rfl, ha1⟩
    have hTz := hTy.keptRdr hR ha1.kept
    have HTK := Lib.hid (ptake_any wz rd (varL n ++ layAll z1) 0 ha1.rdr (by have := HT5.out.1; have h2 := HMM.out; rw [this] at h2; simp at h2 ⊢; omega) hTz (fun _ _ => sort_any _ (by rw [HT5.out.2.2.2.2]; have := each_len (layAll z1).length (layAll z1); unfold eachL; omega)))
    rw [HT5.out.2.1, HT5.out.2.2.1, HT5.out.2.2.2.1] at HTK
    unfold TakeIs at HTK
    dsimp only at HTK
    rw [sortL_length] at HTK
    go_wp2_with fail
    go_at_call 18
    refine HTK.out.mono ?_
    rintro e wk ⟨a9, c9, rfl, hr9, hn9, ha2⟩
    have hkk : Kept (One rd) wy wk := ha1.kept.trans ha2.kept
    have hrk := hrv.past hrd hryy hkk
    have hRk := ha2.rdr
    have HSO : Hid (∀ (wx : World), Row wx a1 (PC z1) → Calls Tryd.prog 21 #[.slice a1 z1.length cap1] wx fun e w' => ∃ a' c', e = .returned (.slice a' z1.length c') ∧ Row w' a' (PC (sortL z1)) ∧ Kept No wx w') := Lib.hid (fun wx h1 => (rsort_any a1 cap1 z1 wx h1 HN.out (by omega)).mono fun e w' ⟨a', c', h1, h2, h3⟩ => ⟨a', c', by rw [h1, sortL_length], (own_row h2).1, h3⟩)
    have HFS : Hid (∀ (a : Option Addr) (c : Nat) (wx : World), Row wx a (PC (sortL z1)) → Calls Tryd.prog 20 #[.slice a z1.length c] wx fun e w' => ∃ a' c', e = .returned (.slice a' z1.length c') ∧ Row w' a' (PC (sortL z1)) ∧ Kept No wx w') := Lib.hid (fun a c wx h1 => by have := fromlist_any a c (sortL z1) wx h1 (by rw [sortL_length]; omega); rw [sortL_length] at this; exact this.mono fun e w' ⟨a', c', h1, h2, h3⟩ => ⟨a', c', by rw [h1, sortL_length], (own_row h2).1, h3⟩)
    have HRS2 : Hid (∀ (a : Option Addr) (c : Nat) (a' : Option Addr) (c' : Nat) (wx : World), Row wx a (PC (sortL z1)) → Row wx a' (PC (sortL z1)) → Calls Tryd.prog 19 #[.slice a z1.length c, .slice a' z1.length c'] wx fun e w' => e = .returned (.bool true) ∧ Kept No wx w') := Lib.hid (fun a c a' c' wx h1 h2 => by have := rsame_any a c (sortL z1) a' c' (sortL z1) wx h1 h2 (by rw [sortL_length]; omega) (by rw [sortL_length]; omega); rw [sortL_length, decide_eq_true rfl] at this; exact this)
    clear ha1 ha2 hTz HTK hryy hTy hn9
    go_wp2_with fail
    go_at_call 20
    refine (HFS.out a9 c9 wk hr9).mono ?_
    rintro e x1 ⟨b1, d1, rfl, s1, j1⟩
    go_wp2_with fail
    go_at_call 21
    refine (HSO.out x1 (hrk.keptNo j1)).mono ?_
    rintro e x2 ⟨b2, d2, rfl, s2, j2⟩
    go_wp2_with fail
    go_at_call 19
    refine (HRS2.out b1 d1 b2 d2 x2 (s1.keptNo j2) s2).mono ?_
    rintro e x3 ⟨rfl, j3⟩
    have hR3 := ((hRk.keptNo j1).keptNo j2).keptNo j3
    have HLF := Lib.hid (left_any x3 rd [] 0 hR3)
    have HER := Lib.hid (err_any x3 rd [] 0 hR3)
    go_wp2_with (first
      | (go_at_call 22; refine HLF.out.mono ?_; rintro e x4 ⟨rfl, rfl⟩)
      | (go_at_call 23; refine HER.out.mono ?_; rintro e x5 ⟨rfl, rfl⟩))
    go_ret
    have hfin : Kept (One rd) wy x3 := hkk.trans ((j1.trans j2).trans j3).any
    exact ⟨rfl, (hky.any.trans hfin).below (Nat.le_refl _) (fun k hk e => by have : k = rd := e; omega)⟩

end Go.Proofs.YtfcgfkgibimffaaDoor
