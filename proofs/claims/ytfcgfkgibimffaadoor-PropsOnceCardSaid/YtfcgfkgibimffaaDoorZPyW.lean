/-
  PropsFixes' walk.
-/
import Derived.Test.YtfcgfkgibimffaaDoorZPfA
namespace Go.Proofs.YtfcgfkgibimffaaDoor
open Go.RowKit
set_option linter.unusedVariables false
set_option linter.unusedSimpArgs false
set_option maxRecDepth 100000

/-- A list that is taken as it was put. -/
structure Fixd (k : Int) (M : List Pr) : Prop where
  chk : checkB k M = true
  len : M.length ≤ 9
  srt : Srt M
  ok : ∀ p ∈ M, p.ok = true
  sm : ∀ p ∈ M, p.wf' ∧ p.a.size ≤ 32 ∧ p.b.size ≤ 32
theorem fix6_fixd (L : List Pr) (k : Int) (hw : ∀ p ∈ L, p.n < 4294967296) : Fixd k (fix6 L k) := by
  obtain ⟨h1, h2, h3, h4⟩ := fix6_ok L k hw
  refine ⟨h1, h2, h3, fun p hp => (h4 p hp).1, fun p hp => ?_⟩
  obtain ⟨q1, q2, q3, q4, q5⟩ := h4 p hp
  exact ⟨⟨q2, q3, by omega, by omega⟩, q4, q5⟩
theorem Fixd.lay {k : Int} {M : List Pr} (h : Fixd k M) : (layAll M).length ≤ 4000 := by
  have := layAll_small M (fun p hp => by have := h.sm p hp; omega)
  have := h.len
  omega
theorem Fixd.put {k : Int} {M : List Pr} (h : Fixd k M) : ∃ n, putL [] M = varL n ++ layAll M ∧ (putL [] M).length ≤ 4010 ∧ takeR (putL [] M) 0 = (M, true) ∧ takeLeft (putL [] M) 0 = [] ∧ takeErr (putL [] M) 0 = 0 ∧ takeSec (putL [] M) 0 = layAll M ∧ eachL (layAll M) = (M, true) := by
  have hl := h.lay
  have hw : ∀ p ∈ M, p.wf' := fun p hp => (h.sm p hp).1
  have hg := lenGo_all M 0 hw h.ok (by omega)
  rw [Nat.zero_add] at hg
  obtain ⟨t1, t2, t3, t4, t5⟩ := take_put (L := M) (n := (layAll M).length) [] [] hw hg
  simp only [List.append_nil, List.nil_append] at t1 t2 t3 t4 t5
  rw [sortL_of h.srt] at t2
  have hv := varL_le (layAll M).length
  refine ⟨_, t1, by rw [t1]; simp; omega, ?_⟩
  rw [t1]
  exact ⟨t2, t3, t4, t5, each_lay M hw h.ok⟩
set_option maxHeartbeats 8000000 in
theorem propsFixes_walk (kd : Int) (a1 : Option Addr) (len1 cap1 : Nat) (z1 : List Pr) (w : World) (w0 : (Lit.int .i64 kd).wf = true) (w1 : IsProps w a1 len1 cap1 z1) (hT : Tabs w) :
    Calls Tryd.prog 7 #[.int .i64 kd, .slice a1 len1 cap1] w fun e w' => e = .returned (.bool true) ∧ Below w.heap.size w w' := by
  obtain ⟨rfl, hr, hle, hcap, hnil, hwf⟩ := w1
  unfold maxLen at hcap hwf
  obtain ⟨k, hk, hk16⟩ := law_mod kd 16 (by omega) (by omega)
  have HFX := Lib.hid (rfix6_any a1 cap1 z1 ((1 : Int) + k) w hr (by omega) hwf)
  have HFD := Lib.hid (fix6_fixd z1 ((1 : Int) + k) (fun p hp => (hwf p hp).2.1))
  generalize fix6 z1 ((1 : Int) + k) = M at *
  unfold OwnP at HFX
  obtain ⟨n, hP, hPl, t2, t3, t4, t5, t6⟩ := HFD.out.put
  have hM9 := HFD.out.len
  have hwM : ∀ p ∈ M, p.wf' := fun p hp => (HFD.out.sm p hp).1
  have hsM := sortL_of HFD.out.srt
  obtain ⟨PL, hPL⟩ : ∃ PL, PL = putL [] M := ⟨_, rfl⟩
  obtain ⟨m, hm⟩ : ∃ m, m = PL.length := ⟨_, rfl⟩
  obtain ⟨nM, hnM⟩ : ∃ nM, nM = M.length := ⟨_, rfl⟩
  rw [← hPL] at hPl t2 t3 t4 t5
  have HMM : Hid (PL.length = m) := Lib.hid hm.symm
  have HTO : Hid (∀ (a : Option Addr) (c : Nat) (wx : World), Row wx a (PC M) → Calls Tryd.prog 13 #[.slice a nM c] wx fun e w' => ∃ a' c', e = .returned (.slice a' nM c') ∧ Row w' a' (PC M) ∧ Kept No wx w') := Lib.hid (fun a c wx h => by rw [hnM]; exact (tolist_any a c M wx h (by omega)).mono fun e w' ⟨a', c', h1, h2, h3⟩ => ⟨a', c', h1, (own_row h2).1, h3⟩)
  have HPU : Hid (∀ (a9 : Option Addr) (c9 : Nat) (wx : World), Row wx a9 (PC M) → Tabs wx → Calls Tryd.prog 12 #[.slice none 0 0, .slice a9 nM c9] wx fun e w' => ∃ a' c', e = .returned (.slice a' m c') ∧ Row w' a' (B8 PL) ∧ (a' = none → m = 0 ∧ c' = 0) ∧ Kept No wx w') := Lib.hid (fun a9 c9 wx h1 h2 => by
    rw [hnM]
    exact (put_any none 0 [] a9 c9 M wx (.nil _ _) (by simp) (by simp) h1 (by omega) hwM h2).mono fun e w' ⟨a', c', q1, q2, q3⟩ => by
      rw [← hPL, ← hm] at q1 q2
      exact ⟨a', c', q1, (own_row q2).1, (own_row q2).2, q3⟩)
  have HTK : Hid (∀ (wx : World) (r : Nat), Rdr wx r PL 0 → Tabs wx → Calls Tryd.prog 18 #[.pointer (some ⟨r, 0, none⟩)] wx fun e w' => ∃ a c, e = .returned (.tuple #[.slice a nM c, .bool true]) ∧ Row w' a (PC M) ∧ (a = none → nM = 0 ∧ c = 0) ∧ Kept (One r) wx w' ∧ Rdr w' r [] 0) := Lib.hid (fun wx r hx ht => by
    have := ptake_any wx r PL 0 hx (by omega) ht (fun _ _ => sort_any _ (by rw [t5, t6]; show M.length ≤ 100000; omega))
    rw [t2, t3, t4] at this
    rw [hnM]
    exact this.mono fun e w' ⟨a, c, q1, q2, q3, q4⟩ => ⟨a, c, q1, q2, q3, q4.kept, q4.rdr⟩)
  have HCK : Hid (∀ (a : Option Addr) (c : Nat) (wx : World), Row wx a (PC M) → Tabs wx → Calls Tryd.prog 30 #[.int .i64 ((1 : Int) + k), .slice a nM c] wx fun e w' => e = .returned (.bool true) ∧ Kept No wx w') := Lib.hid (fun a c wx h1 h2 => by have := check_any ((1 : Int) + k) a c M wx h1 (by omega) hwM h2; rw [HFD.out.chk, ← hnM] at this; exact this)
  have HFR : Hid (∀ (a : Option Addr) (c : Nat) (wx : World), Row wx a (PC M) → Calls Tryd.prog 20 #[.slice a nM c] wx fun e w' => ∃ a' c', e = .returned (.slice a' nM c') ∧ Row w' a' (PC M) ∧ Kept No wx w') := Lib.hid (fun a c wx h => by rw [hnM]; exact (fromlist_any a c M wx h (by omega)).mono fun e w' ⟨a', c', h1, h2, h3⟩ => ⟨a', c', h1, (own_row h2).1, h3⟩)
  have HSM : Hid (∀ (a : Option Addr) (c : Nat) (a' : Option Addr) (c' : Nat) (wx : World), Row wx a (PC M) → Row wx a' (PC M) → Calls Tryd.prog 19 #[.slice a nM c, .slice a' nM c'] wx fun e w' => e = .returned (.bool true) ∧ Kept No wx w') := Lib.hid (fun a c a' c' wx h1 h2 => by have := rsame_any a c M a' c' M wx h1 h2 (by omega) (by omega); rw [decide_eq_true rfl, ← hnM] at this; exact this)
  have HPS : Hid (∀ (a : Option Addr) (c : Nat) (a' : Option Addr) (c' : Nat) (wx : World), Row wx a (PC M) → Row wx a' (PC M) → Calls Tryd.prog 33 #[.slice a nM c, .slice a' nM c'] wx fun e w' => e = .returned (.bool true) ∧ Kept No wx w') := Lib.hid (fun a c a' c' wx h1 h2 => by have := psame_any a c M a' c' M wx h1 h2 (by omega) (by omega); rw [decide_eq_true rfl, ← hnM] at this; exact this)
  have HSO : Hid (∀ (a : Option Addr) (c : Nat) (wx : World), Row wx a (PC M) → (a = none → nM = 0 ∧ c = 0) → Calls Tryd.prog 29 #[.slice a nM c] wx fun e w' => ∃ a' c', e = .returned (.slice a' nM c') ∧ Row w' a' (PC M) ∧ Kept No wx w') := Lib.hid (fun a c wx h1 h2 => by
    rw [hnM] at h2 ⊢
    have := sort_any M (by omega) a c wx h1 h2
    rw [hsM] at this
    exact this.mono fun e w' ⟨a', c', q1, q2, q3⟩ => ⟨a', c', q1, (own_row q2).1, q3⟩)
  have HML : Hid (m ≤ 4010) := Lib.hid (by omega)
  rw [← hnM] at HFX
  clear hP hPL hm hnM hPl t2 t3 t4 t5 t6 hM9 hwM hsM hwf w0
  have hkI : (k : Int) < 16 := by omega
  go_enter Tryd.func7, Tryd.ntmps7
  go_wp2_with fail
  go_at_call 34
  refine HFX.out.mono ?_
  rintro e w1 ⟨a2, c2, rfl, hown2, hk1⟩
  obtain ⟨hr2, hn2⟩ := own_row hown2
  have hT1 := hT.kept hk1
  clear hown2
  go_wp2_with fail
  go_at_call 13
  refine (HTO.out a2 c2 w1 hr2).mono ?_
  rintro e w2 ⟨a3, c3, rfl, hr3, hk2⟩
  go_wp2_with fail
  go_at_call 12
  refine (HPU.out a3 c3 w2 hr3 (hT1.kept hk2)).mono ?_
  rintro e w3 ⟨a4, c4, rfl, hr4, hn4, hk3⟩
  have hr23 := (hr2.keptNo hk2).keptNo hk3
  have hk13 := (hk1.trans hk2).trans hk3
  have hT3 := (hT1.kept hk2).kept hk3
  go_wp2_with fail
  go_at_call 16
  refine (read_at a4 c4 m PL HMM w3 hr4 (fun h => (hn4 h).2) (by have := HMM.out; have := HML.out; omega)).mono ?_
  rintro e w4 ⟨rd, rfl, hrd, hR, hk4⟩
  have hr24 := hr23.keptNo hk4
  have hT4 := hT3.kept hk4
  go_wp2_with fail
  go_at_call 18
  refine (HTK.out w4 rd hR hT4).mono ?_
  rintro e w5 ⟨a5, c5, rfl, hr5, hn5, hk5, hR5⟩
  have hr25 := hr23.past hrd hr24 hk5
  have hT5 := hT4.keptRdr hR hk5
  go_wp2_with fail
  go_at_call 11
  refine (told6_any w5 hT5).mono ?_
  rintro e w6 ⟨rfl, j1⟩
  go_wp2_with fail
  go_at_call 13
  refine (HTO.out a2 c2 w6 (hr25.keptNo j1)).mono ?_
  rintro e w7 ⟨a7, c7, rfl, hr7, j2⟩
  go_wp2_with fail
  go_at_call 30
  refine (HCK.out a7 c7 w7 hr7 ((hT5.kept j1).kept j2)).mono ?_
  rintro e w8 ⟨rfl, j3⟩
  have jj := (j1.trans j2).trans j3
  go_wp2_with fail
  go_at_call 20
  refine (HFR.out a5 c5 w8 (hr5.keptNo jj)).mono ?_
  rintro e w9 ⟨a9, c9, rfl, hr9, j4⟩
  have jj2 := jj.trans j4
  go_wp2_with fail
  go_at_call 19
  refine (HSM.out a9 c9 a2 c2 w9 hr9 (hr25.keptNo jj2)).mono ?_
  rintro e x1 ⟨rfl, j5⟩
  have jj3 := jj2.trans j5
  go_wp2_with fail
  go_at_call 29
  refine (HSO.out a5 c5 x1 (hr5.keptNo jj3) hn5).mono ?_
  rintro e x2 ⟨a8, c8, rfl, hr8, j6⟩
  have jj4 := jj3.trans j6
  go_wp2_with fail
  go_at_call 33
  refine (HPS.out a8 c8 a5 c5 x2 hr8 (hr5.keptNo jj4)).mono ?_
  rintro e x3 ⟨rfl, j7⟩
  go_wp2
  go_ret
  have hz : w.heap.size ≤ rd := by have := hk13.size; omega
  exact ⟨rfl, ((((hk13.trans hk4).any.trans hk5).trans jj4.any).trans j7.any).below (Nat.le_refl _) (fun k hk e => by have : k = rd := e; omega)⟩

end Go.Proofs.YtfcgfkgibimffaaDoor
