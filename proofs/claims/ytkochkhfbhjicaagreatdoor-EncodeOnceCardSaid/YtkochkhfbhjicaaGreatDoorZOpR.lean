/-
  What a packet that came as an argument has at most: made by mkopr.py.
-/
import Derived.Test.YtkochkhfbhjicaaGreatDoorYFE
import Derived.Test.YtkochkhfbhjicaaGreatDoorYFC
namespace Go.Proofs.YtkochkhfbhjicaaGreatDoor
open Go.RowKit Go.ChangeShapes Go.WideShapes Go.Deep
set_option linter.unusedVariables false
set_option linter.unusedSimpArgs false
set_option maxRecDepth 100000

section
variable {H : Type} {enc : TypeId × Value → H} {w : World} {base : Nat} {spare : Nat → Bool} {held : Bool}
/-- All that it weighs is within reach. -/
def Light (P : Program) (t : TypeId) (d : DataW H) : Prop := ∀ n ∈ d.weights P t, n ≤ 140737488351232
theorem light_each {P : Program} : ∀ (ts : List TypeId) (ds : List (DataW H)), (∀ n ∈ DataW.weightsEach P ts ds, n ≤ 140737488351232) → ∀ (j : Nat) (t : TypeId) (d : DataW H), ts[j]? = some t → ds[j]? = some d → Light P t d
  | [], _, _, j, t, d, ht, _ => by simp at ht
  | _ :: _, [], _, j, t, d, _, hd => by simp at hd
  | t0 :: ts, d0 :: ds, h, j, t, d, ht, hd => by
    simp only [DataW.weightsEach, List.mem_append] at h
    cases j with
    | zero =>
      simp at ht hd
      subst ht hd
      exact fun n hn => h n (.inl hn)
    | succ j => exact light_each ts ds (fun n hn => h n (.inr hn)) j t d (by simpa using ht) (by simpa using hd)
theorem light_all {P : Program} {e : TypeId} : ∀ (ds : List (DataW H)), (∀ n ∈ DataW.weightsAll P e ds, n ≤ 140737488351232) → ∀ d ∈ ds, Light P e d
  | [], _, d, hd => by simp at hd
  | d0 :: ds, h, d, hd => by
    simp only [DataW.weightsAll, List.mem_append] at h
    rcases List.mem_cons.1 hd with rfl | hd
    · exact fun n hn => h n (.inl hn)
    · exact light_all ds (fun n hn => h n (.inr hn)) d hd
theorem light_agg {P : Program} {t : TypeId} {fs : Array Field} {ds : List (DataW H)} (u : P.underlying t = some (.struct fs)) (h : Light P t (.agg ds)) : ∀ (j : Nat) (f : Field) (d : DataW H), fs[j]? = some f → ds[j]? = some d → Light P f.type d := by
  intro j f d hf hd
  have h' : ∀ n ∈ DataW.weightsEach P (fs.toList.map (·.type)) ds, n ≤ 140737488351232 := by
    intro n hn
    refine h n ?_
    simp only [DataW.weights, u]
    exact hn
  exact light_each _ _ h' j f.type d (by rw [List.getElem?_map, Array.getElem?_toList, hf]; rfl) hd
/-- A field, with what it weighs. -/
theorem field_light {P : Program} {e : TypeId} {fs : Array Field} {n : Nat} {cs : List Value} {x : DataW H × List MemPlace} (he : P.underlying e = some (.struct fs)) (h : DataW.trod enc P w base spare held n e cs = some x) (hL : Light P e x.1)
    {j : Nat} {f : Field} (hj : fs[j]? = some f) (ho : f.offset = j) (hc : P.cellsOf f.type = 1) (hjl : j < cs.length) : ∃ k y, DataW.trod enc P w base spare held k f.type [cs[j]] = some y ∧ Light P f.type y.1 := by
  obtain ⟨xs, k, _, hx, _, hxl, hf⟩ := DataW.trod_struct he h
  have h1 := hf j f hj
  rw [ho, hc] at h1
  have e1 : (cs.drop j).take 1 = [cs[j]] := by
    rw [List.drop_eq_getElem_cons hjl]
    rfl
  rw [e1] at h1
  have hjx : j < xs.length := by rw [hxl]; exact (Array.getElem?_eq_some_iff.1 hj).1
  rw [List.getElem?_eq_getElem hjx] at h1
  rw [hx] at hL
  exact ⟨_, _, h1, light_agg he hL j f _ hj (by rw [List.getElem?_map, List.getElem?_eq_getElem hjx]; rfl)⟩
theorem light_str {s : ByteArray} {t : TypeId} {P : Program} (h : Light (H := H) P t (.lit (.string s.data.toList))) : s.size ≤ 140737488351232 := by
  have := h s.data.toList.length (by simp [DataW.weights])
  simpa using this
/-- A list that came as an argument: how long it is, and each of its elements. -/
theorem light_slice {P : Program} {t e : TypeId} {fuel : Nat} {a : Option Addr} {len cap : Nat} {x : DataW H × List MemPlace} (ht : P.underlying t = some (.slice e)) (hb : 1 ≤ P.bytesOf e) (h : DataW.trod enc P w base spare held fuel t [.slice a len cap] = some x) (hL : Light P t x.1) :
    len ≤ 140737488351232 ∧ ∀ i, i < len → ∃ ad cs' n y, a = some ad ∧ w.cells? base (ad.add (i * P.cellsOf e)) (P.cellsOf e) = some cs' ∧ DataW.trod enc P w base spare held n e cs' = some y ∧ Light P e y.1 := by
  rcases open_slice ht h with ⟨h0, _⟩ | ⟨ad, len', cap', m, n, D, Pl, h0, hbb, hl, hm, hmm, rfl, hx⟩
  · simp at h0
    obtain ⟨_, rfl, _⟩ := h0
    exact ⟨by omega, fun i hi => by omega⟩
  · simp at h0
    obtain ⟨rfl, rfl, rfl⟩ := h0
    have hlm : len ≤ m := by rw [hmm]; split <;> omega
    have hw : ∀ n ∈ (((List.range len).map D).length + ((List.range (m - len)).map fun j => D (len + j)).length) * P.bytesOf e :: (DataW.weightsAll P e ((List.range len).map D) ++ DataW.weightsAll P e ((List.range (m - len)).map fun j => D (len + j))), n ≤ 140737488351232 := by
      intro n hn
      refine hL n ?_
      simp only [DataW.weights, ht]
      exact hn
    have h1 := hw _ (List.mem_cons_self ..)
    simp only [List.length_map, List.length_range] at h1
    have h2 : len + (m - len) ≤ (len + (m - len)) * P.bytesOf e := Nat.le_mul_of_pos_right _ hb
    refine ⟨by omega, fun i hi => ?_⟩
    obtain ⟨cs', hc1, hc2⟩ := hx i (by omega)
    refine ⟨ad, cs', n, _, rfl, hc1, hc2, ?_⟩
    exact light_all _ (fun n hn => hw n (List.mem_cons_of_mem _ (List.mem_append_left _ hn))) _ (List.mem_map.2 ⟨i, List.mem_range.2 hi, rfl⟩)
set_option maxHeartbeats 1000000 in
theorem light_props {fuel : Nat} {a : Option Addr} {len cap : Nat} {L : List Pr} {x : DataW H × List MemPlace} (h : DataW.trod enc Tryz.prog w base spare held fuel 23 [.slice a len cap] = some x) (hI : j8a w a len cap L) (hL : Light Tryz.prog 23 x.1) :
    L.length ≤ 140737488351232 ∧ ∀ p ∈ L, p.a.size ≤ 140737488351232 ∧ p.b.size ≤ 140737488351232 := by
  obtain ⟨h1, h2⟩ := light_slice Tryz.underlying23 (by decide +kernel) h hL
  obtain ⟨hlen, hrow, _, _, _, _⟩ := hI
  refine ⟨by omega, fun p hp => ?_⟩
  obtain ⟨i, hi, rfl⟩ := List.getElem_of_mem hp
  obtain ⟨ad, cs', n, y, rfl, hc, ht, hy⟩ := h2 i (by omega)
  have ce : Tryz.prog.cellsOf 46 = 4 := by kernel_rfl
  rw [ce] at hc
  obtain ⟨_, hcl, hcell⟩ := World.cells?_some hc
  obtain ⟨b, off, hab, _, _, _, q2, q3⟩ := hrow.prop hi
  obtain rfl := Option.some.inj hab
  obtain ⟨k2, y2, t2, w2⟩ := field_light (j := 2) Tryz.underlying46 ht hy rfl rfl (by kernel_rfl) (by omega)
  obtain ⟨k3, y3, t3, w3⟩ := field_light (j := 3) Tryz.underlying46 ht hy rfl rfl (by kernel_rfl) (by omega)
  obtain ⟨s2, e2, f2, _⟩ := DataW.trod_string Tryz.underlying9 t2
  obtain ⟨s3, e3, f3, _⟩ := DataW.trod_string Tryz.underlying9 t3
  have c2 := hcell 2 (by omega)
  have c3 := hcell 3 (by omega)
  rw [Addr.add_lit, Addr.add_lit] at c2 c3
  rw [q2, List.getElem?_eq_getElem (by omega), List.singleton_inj.1 e2] at c2
  rw [q3, List.getElem?_eq_getElem (by omega), List.singleton_inj.1 e3] at c3
  simp only [Option.some.injEq, Value.string.injEq] at c2 c3
  rw [c2, c3]
  rw [f2] at w2
  rw [f3] at w3
  exact ⟨light_str w2, light_str w3⟩
set_option maxHeartbeats 1000000 in
theorem light_filts {fuel : Nat} {a : Option Addr} {len cap : Nat} {L : List Fi} {x : DataW H × List MemPlace} (h : DataW.trod enc Tryz.prog w base spare held fuel 24 [.slice a len cap] = some x) (hI : jCd w a len cap L) (hL : Light Tryz.prog 24 x.1) :
    L.length ≤ 140737488351232 ∧ ∀ p ∈ L, p.text.size ≤ 140737488351232 := by
  obtain ⟨h1, h2⟩ := light_slice Tryz.underlying24 (by decide +kernel) h hL
  obtain ⟨hlen, hrow, _, _, _, _⟩ := hI
  refine ⟨by omega, fun p hp => ?_⟩
  obtain ⟨i, hi, rfl⟩ := List.getElem_of_mem hp
  obtain ⟨ad, cs', n, y, rfl, hc, ht, hy⟩ := h2 i (by omega)
  have ce : Tryz.prog.cellsOf 51 = 2 := by kernel_rfl
  rw [ce] at hc
  obtain ⟨_, hcl, hcell⟩ := World.cells?_some hc
  obtain ⟨b, off, hab, _, q0, _⟩ := hrow.filt hi
  obtain rfl := Option.some.inj hab
  obtain ⟨k0, y0, t0, w0⟩ := field_light (j := 0) Tryz.underlying51 ht hy rfl rfl (by kernel_rfl) (by omega)
  obtain ⟨s0, e0, f0, _⟩ := DataW.trod_string Tryz.underlying9 t0
  have c0 := hcell 0 (by omega)
  rw [Addr.add_lit, Addr.add_lit] at c0
  rw [Nat.add_zero, q0, List.getElem?_eq_getElem (by omega), List.singleton_inj.1 e0] at c0
  simp only [Option.some.injEq, Value.string.injEq] at c0
  rw [c0]
  rw [f0] at w0
  exact light_str w0
set_option maxHeartbeats 4000000 in
theorem reach_pk {p : Pk} {s : Sl} {d : DataW H} {pl : List MemPlace} (h : DataW.Trod enc Tryz.prog w base (fun _ => true) held 27 (Pk.val p s) d pl) (hI : IsPk w p s) (hL : Light Tryz.prog 27 d) : Reach p := by
  have u := Tryz.underlying27
  obtain ⟨fuel, hf⟩ := h
  simp only [Pk.val, Pk.cells, Value.cells] at hf
  obtain ⟨k7, y7, t7, w7⟩ := field_light (j := 7) u hf hL rfl rfl (by kernel_rfl) (by simp)
  simp only [List.getElem_cons_succ, List.getElem_cons_zero] at t7
  obtain ⟨s7, e7, f7, _⟩ := DataW.trod_string Tryz.underlying9 t7
  have r7 : p.client.size ≤ 140737488351232 := by
    have := List.singleton_inj.1 e7
    simp only [Value.string.injEq] at this
    rw [this]; rw [f7] at w7; exact light_str w7
  obtain ⟨k13, y13, t13, w13⟩ := field_light (j := 13) u hf hL rfl rfl (by kernel_rfl) (by simp)
  simp only [List.getElem_cons_succ, List.getElem_cons_zero] at t13
  have r13 := light_props t13 hI.hw w13
  obtain ⟨k14, y14, t14, w14⟩ := field_light (j := 14) u hf hL rfl rfl (by kernel_rfl) (by simp)
  simp only [List.getElem_cons_succ, List.getElem_cons_zero] at t14
  obtain ⟨s14, e14, f14, _⟩ := DataW.trod_string Tryz.underlying9 t14
  have r14 : p.willTopic.size ≤ 140737488351232 := by
    have := List.singleton_inj.1 e14
    simp only [Value.string.injEq] at this
    rw [this]; rw [f14] at w14; exact light_str w14
  obtain ⟨k15, y15, t15, w15⟩ := field_light (j := 15) u hf hL rfl rfl (by kernel_rfl) (by simp)
  simp only [List.getElem_cons_succ, List.getElem_cons_zero] at t15
  obtain ⟨s15, e15, f15, _⟩ := DataW.trod_string Tryz.underlying9 t15
  have r15 : p.willLoad.size ≤ 140737488351232 := by
    have := List.singleton_inj.1 e15
    simp only [Value.string.injEq] at this
    rw [this]; rw [f15] at w15; exact light_str w15
  obtain ⟨k16, y16, t16, w16⟩ := field_light (j := 16) u hf hL rfl rfl (by kernel_rfl) (by simp)
  simp only [List.getElem_cons_succ, List.getElem_cons_zero] at t16
  obtain ⟨s16, e16, f16, _⟩ := DataW.trod_string Tryz.underlying9 t16
  have r16 : p.user.size ≤ 140737488351232 := by
    have := List.singleton_inj.1 e16
    simp only [Value.string.injEq] at this
    rw [this]; rw [f16] at w16; exact light_str w16
  obtain ⟨k17, y17, t17, w17⟩ := field_light (j := 17) u hf hL rfl rfl (by kernel_rfl) (by simp)
  simp only [List.getElem_cons_succ, List.getElem_cons_zero] at t17
  obtain ⟨s17, e17, f17, _⟩ := DataW.trod_string Tryz.underlying9 t17
  have r17 : p.pass.size ≤ 140737488351232 := by
    have := List.singleton_inj.1 e17
    simp only [Value.string.injEq] at this
    rw [this]; rw [f17] at w17; exact light_str w17
  obtain ⟨k20, y20, t20, w20⟩ := field_light (j := 20) u hf hL rfl rfl (by kernel_rfl) (by simp)
  simp only [List.getElem_cons_succ, List.getElem_cons_zero] at t20
  obtain ⟨s20, e20, f20, _⟩ := DataW.trod_string Tryz.underlying9 t20
  have r20 : p.topic.size ≤ 140737488351232 := by
    have := List.singleton_inj.1 e20
    simp only [Value.string.injEq] at this
    rw [this]; rw [f20] at w20; exact light_str w20
  obtain ⟨k21, y21, t21, w21⟩ := field_light (j := 21) u hf hL rfl rfl (by kernel_rfl) (by simp)
  simp only [List.getElem_cons_succ, List.getElem_cons_zero] at t21
  obtain ⟨s21, e21, f21, _⟩ := DataW.trod_string Tryz.underlying9 t21
  have r21 : p.load.size ≤ 140737488351232 := by
    have := List.singleton_inj.1 e21
    simp only [Value.string.injEq] at this
    rw [this]; rw [f21] at w21; exact light_str w21
  obtain ⟨k22, y22, t22, w22⟩ := field_light (j := 22) u hf hL rfl rfl (by kernel_rfl) (by simp)
  simp only [List.getElem_cons_succ, List.getElem_cons_zero] at t22
  have r22 := light_filts t22 hI.hf w22
  obtain ⟨k23, y23, t23, w23⟩ := field_light (j := 23) u hf hL rfl rfl (by kernel_rfl) (by simp)
  simp only [List.getElem_cons_succ, List.getElem_cons_zero] at t23
  have r23 := (light_slice Tryz.underlying25 (by decide +kernel) t23 w23).1
  obtain ⟨k24, y24, t24, w24⟩ := field_light (j := 24) u hf hL rfl rfl (by kernel_rfl) (by simp)
  simp only [List.getElem_cons_succ, List.getElem_cons_zero] at t24
  have r24 := light_props t24 hI.hp w24
  exact ⟨r7, r14, r15, r16, r17, r20, r21, r13.1, r22.1, r23, r24.1, r22.2, r24.2, r13.2⟩
end
end Go.Proofs.YtkochkhfbhjicaaGreatDoor
