/-
  The document's Encode, walked: Behind, Encode.
-/
import Derived.Test.YtdgmkcfkpknamaaGreatDoorZEr3
namespace Go.Proofs.YtdgmkcfkpknamaaGreatDoor
open Go.RowKit
set_option linter.unusedVariables false
set_option linter.unusedSimpArgs false
set_option maxRecDepth 100000
set_option maxHeartbeats 8000000
section
variable {c : World} {v : Int}
theorem len_by1 (l : List UInt8) (n : Nat) : l.length + 1 = (l ++ by1 n).length := by rw [List.length_append, b1_len]
theorem b8_by1 (l : List UInt8) (n : Nat) (h : n < 256) : B8 l ++ [.int .u8 n] = B8 (l ++ by1 n) := by rw [B8_append, B8_by1 _ h]
theorem rn_beh (p : Pk) (s : Sl) (hp : p.At s c) (hn : s.ca = none → s.cc = 0) (hF : Fit p) (hR : Ri v p) (hL : Lays9 v p) (hP : p.props.length ≤ 1000) (hW : p.willProps.length ≤ 1000) (hB : (behB v p).length ≤ 50000) : Rn 57 [.int .i64 v, p.val s] c (behB v p) := by
  have hid := hF.id
  have hcd := hF.code
  have hnf := hR.nf
  have b1 := ck_bit8 (c := c) p.present 1
  have hb1 : bitN p.present 1 ≤ 1 := by unfold bitN; split <;> omega
  have e2 := oy_two (c := c) (a := none) (n := 0) (l := []) (x := p.id) (.nil _ _) (fun _ => ⟨rfl, rfl⟩) (by decide) hid
  have eb := oy_bin (c := c) (a := none) (n := 0) (l := []) (s := p.topic) (.nil _ _) (fun _ => ⟨rfl, rfl⟩) (by decide) hR.topic
  rw [List.nil_append] at e2 eb
  refine Tr.in Tryz.func57 ?_
  refine go ?_
  refine vA fun b0 => ?_
  refine go ?_
  by_cases k1 : p.kind = 1
  · have e : behB v p = connB v p := by rw [beh_kind, if_pos k1]
    rw [e] at hB ⊢
    refine go ?_
    refine vt0r (rn_con p s hp hF hR hL hP hW hB) fun y hy => ?_
    refine go ?_
    exact ved (vrt y hy)
  by_cases k2 : p.kind = 2
  · have e : behB v p = (by1 (bitN p.present 1) ++ by1 p.code) ++ secB v p.props := by rw [beh_kind, if_neg k1, if_pos k2]
    rw [e]
    refine go ?_
    refine vh [0] ?_
    repeat' first
      | refine go ?_
      | refine vqx 0 ?_
      | refine vqA fun b9 => ?_
      | fail
    refine vhbr (by1 (bitN p.present 1) ++ by1 p.code) ?_ (by rw [B8_append, B8_by1 _ (by omega), B8_by1 _ hcd]; rfl) rfl (by simp [b1_len])
    refine vqr (ro_sec (by simp [b1_len]) hp.hp hP hF.wf.p hL.p) fun y hy => ?_
    refine go ?_
    exact ved (vrt y hy)
  by_cases k3 : p.kind = 3
  · obtain ⟨l1, hl1⟩ : ∃ l1, l1 = binBy p.topic ++ (if p.qos = 0 then [] else by2 p.id) := ⟨_, rfl⟩
    have e : behB v p = l1 ++ secB v p.props ++ p.load.data.toList := by rw [beh_kind, if_neg k1, if_neg k2, if_pos k3, hl1]; rfl
    have h9 : p.load.data.toList.length = p.load.size := by simp
    rw [e] at hB ⊢
    have hB2 := hB
    rw [List.length_append, List.length_append, h9] at hB2
    have ht : (binBy p.topic).length ≤ 50000 := by have := congrArg List.length hl1; rw [List.length_append] at this; omega
    refine go ?_
    refine vt0r eb fun y0 _ => ?_
    refine go ?_
    refine vck (fun y : (Option Addr × Nat) × World => [(0, .int .i64 v), (3, pt b0), (5, .slice y.1.1 l1.length y.1.2)]) (fun y => y.2) (fun _ => [⟨b0, 27, p.li s⟩]) (fun y => [byR y.1.1 y.1.2 l1]) (fun y => Le c y.2) ?_ fun y1 k1 => ?_
    · by_cases hq : p.qos = 0
      · have e1 : l1 = binBy p.topic := by rw [hl1, if_pos hq]; simp
        rw [e1]
        refine go ?_
        exact vj (y0, c) (Le.refl c)
      · have e1 : l1 = binBy p.topic ++ by2 p.id := by rw [hl1, if_neg hq]
        rw [e1]
        refine go ?_
        refine vtr (ro_two (by omega) hid) fun y hy => ?_
        refine go ?_
        exact vj y hy
    refine go ?_
    refine vh [0] ?_
    repeat' first
      | refine go ?_
      | refine vqx 0 ?_
      | refine vqr (ro_sec (c := y1.2) (a := y1.1.1) (n := y1.1.2) (l := l1) (m := s.pc) (K := p.props) (by omega) (hp.hp.le k1) hP hF.wf.p hL.p) fun y hy => ?_
      | refine vqgs (fun a' cp' => ?_) (hb := by rw [List.length_append]; omega)
      | fail
    have n1 : (l1 ++ secB v p.props).length + p.load.size = (l1 ++ secB v p.props ++ p.load.data.toList).length := by simp [List.length_append, Nat.add_assoc]
    rw [n1, ← B8_append]
    exact ved (vrt ((a', cp'), y.2) (k1.trans hy))
  by_cases k4 : p.kind = 4 ∨ p.kind = 5 ∨ p.kind = 6 ∨ p.kind = 7
  · have e : behB v p = by2 p.id ++ shortB v p := by rw [beh_kind, if_neg k1, if_neg k2, if_neg k3, if_pos k4]
    rw [e]
    have tc := fun (a : Option Addr) (n : Nat) => ro_code (c := c) (v := v) p s hp hF hL hP (a := a) (n := n) (l := by2 p.id) (by rw [b2_len]; omega)
    repeat' first | refine go ?_ | refine vc (fun _ => ?_) fun _ => ?_ | fail
    all_goals
      refine vh [0] ?_
      repeat' first
        | refine go ?_
        | refine vqx 0 ?_
        | refine vqt0r9 e2 fun y0 _ => ?_
        | refine vqr (tc _ _) fun y hy => ?_
        | fail
      exact ved (vrt y hy)
  by_cases k14 : p.kind = 14 ∨ p.kind = 15
  · have e : behB v p = [] ++ shortB v p := by rw [beh_kind, if_neg k1, if_neg k2, if_neg k3, if_neg k4, if_neg (by omega), if_neg (by omega), if_pos k14]; rfl
    rw [e]
    have tc := ro_code (c := c) (v := v) p s hp hF hL hP (a := none) (n := 0) (l := []) (by decide)
    repeat' first | refine go ?_ | refine vc (fun _ => ?_) fun _ => ?_ | fail
    all_goals
      refine vnl 5 1 ?_
      refine vtr tc fun y hy => ?_
      refine go ?_
      exact ved (vrt y hy)
  by_cases k9 : p.kind = 9 ∨ p.kind = 11
  · have e : behB v p = by2 p.id ++ secB v p.props ++ p.codes := by rw [beh_kind, if_neg k1, if_neg k2, if_neg k3, if_neg k4, if_neg (by omega), if_pos k9]
    rw [e] at hB ⊢
    rw [List.length_append] at hB
    have tc := fun (a : Option Addr) (n : Nat) => ro_sec (c := c) (v := v) (a := a) (n := n) (l := by2 p.id) (m := s.pc) (K := p.props) (by rw [b2_len]; omega) hp.hp hP hF.wf.p hL.p
    repeat' first | refine go ?_ | refine vc (fun _ => ?_) fun _ => ?_ | fail
    all_goals
      refine vh [0] ?_
      repeat' first
        | refine go ?_
        | refine vqx 0 ?_
        | refine vqt0r9 e2 fun y0 _ => ?_
        | refine vqr (tc _ _) fun y hy => ?_
        | refine vqgr (hp.hc.le hy) hn (B8_one _) (fun a' cp' => ?_) (hb := by omega)
        | fail
      have n1 : (by2 p.id ++ secB v p.props).length + p.codes.length = (by2 p.id ++ secB v p.props ++ p.codes).length := by simp [List.length_append, Nat.add_assoc]
      rw [n1, ← B8_append]
      exact ved (vrt ((a', cp'), y.2) hy)
  by_cases k8 : p.kind = 8 ∨ p.kind = 10
  · obtain ⟨l0, hl0⟩ : ∃ l0, l0 = by2 p.id ++ secB v p.props := ⟨_, rfl⟩
    have e : behB v p = l0 ++ filtB p.kind p.filters := by rw [beh_kind, if_neg k1, if_neg k2, if_neg k3, if_neg k4, if_pos k8, hl0]
    rw [e] at hB ⊢
    rw [List.length_append] at hB
    have tc := fun (a : Option Addr) (n : Nat) => ro_sec (c := c) (v := v) (a := a) (n := n) (l := by2 p.id) (m := s.pc) (K := p.props) (by rw [b2_len]; omega) hp.hp hP hF.wf.p hL.p
    repeat' first | refine go ?_ | refine vc (fun _ => ?_) fun _ => ?_ | fail
    all_goals
      refine vck (fun y : (Option Addr × Nat) × World => [(0, .int .i64 v), (3, pt b0), (5, .slice y.1.1 l0.length y.1.2)]) (fun y => y.2) (fun _ => [⟨b0, 27, p.li s⟩]) (fun y => [byR y.1.1 y.1.2 l0]) (fun y => Le c y.2) ?_ fun y1 h1 => ?_
      · subst hl0
        refine vh [0] ?_
        repeat' first
          | refine go ?_
          | refine vqx 0 ?_
          | refine vqt0r9 e2 fun y0 _ => ?_
          | refine vqr (tc _ _) fun y hy => ?_
          | fail
        exact vj y hy
      refine go ?_
      refine vlo (fun x : Nat × FoX × World => [(0, .int .i64 v), (3, pt b0), (5, .slice x.2.1.a x.2.1.l.length x.2.1.cp), (6, .int .i64 x.1)]) (fun x => x.2.2) (fun _ => [⟨b0, 27, p.li s⟩]) (fun x => [byR x.2.1.a x.2.1.cp x.2.1.l]) (fun x => x.1 ≤ p.filters.length ∧ Le c x.2.2 ∧ x.2.1.l = l0 ++ filtB p.kind (p.filters.take x.1)) (fun x => p.filters.length - x.1) (0, ⟨y1.1.1, y1.1.2, l0⟩, y1.2) ⟨Nat.zero_le _, h1, by simp [filtB]⟩ fun ⟨j, ⟨a5, n5, x5⟩, c5⟩ ⟨j1, j2, j3⟩ => ?_
      dsimp only at j1 j2 j3 ⊢
      rcases Nat.lt_or_ge j p.filters.length with h | h
      · obtain ⟨b5, o5, hRt⟩ := (hp.hf.le j2).fi h
        have ho := hF.opt _ (List.getElem_mem h)
        have hs := hR.filt _ (List.getElem_mem h)
        have e1 : filtB p.kind (p.filters.take (j + 1)) = filtB p.kind (p.filters.take j) ++ (binBy p.filters[j].text ++ if p.kind = 8 then by1 p.filters[j].opt else []) := by
          rw [List.take_succ_eq_append_getElem h, filtB_app]; simp [filtB]
        have hle : (filtB p.kind (p.filters.take j)).length ≤ (filtB p.kind p.filters).length := by
          conv => rhs; rw [← List.take_append_drop j p.filters, filtB_app, List.length_append]
          omega
        have hx : x5.length ≤ 50000 := by rw [j3, List.length_append]; omega
        refine go ?_
        refine vtr (ro_bin (c := c5) (a := a5) (n := n5) (l := x5) (s := p.filters[j].text) (by omega) hs) fun y hy => ?_
        obtain ⟨b6, o6, hR6⟩ := (hp.hf.le (j2.trans hy)).fi h
        first
          | (have q8 : p.kind = 8 := by omega
             rw [if_pos q8] at e1
             refine go ?_
             refine vA fun b9 => ?_
             refine vgb (fun a' cp' => ?_) (hb := by rw [List.length_append, binBy_len]; omega)
             refine go ?_
             refine ved ?_
             have n1 : (x5 ++ binBy p.filters[j].text).length + 1 = (x5 ++ binBy p.filters[j].text ++ by1 p.filters[j].opt).length := len_by1 _ _
             have n2 : B8 (x5 ++ binBy p.filters[j].text) ++ [.int .u8 p.filters[j].opt] = B8 (x5 ++ binBy p.filters[j].text ++ by1 p.filters[j].opt) := b8_by1 _ _ ho
             rw [n1, n2]
             exact vj (j + 1, FoX.mk a' cp' (x5 ++ binBy p.filters[j].text ++ by1 p.filters[j].opt), y.2) ⟨h, j2.trans hy, by dsimp only; rw [e1, j3]; simp only [List.append_assoc]⟩)
          | (have q8 : ¬ p.kind = 8 := by omega
             rw [if_neg q8, List.append_nil] at e1
             refine go ?_
             exact vj (j + 1, FoX.mk y.1.1 y.1.2 (x5 ++ binBy p.filters[j].text), y.2) ⟨h, j2.trans hy, by dsimp only; rw [e1, j3]; simp only [List.append_assoc]⟩)
      · have e9 : x5 = l0 ++ filtB p.kind p.filters := by rw [j3, List.take_of_length_le h]
        refine go ?_
        rw [← e9]
        exact ved (vrt ((a5, n5), c5) j2)
  · have e : behB v p = [] := by rw [beh_kind, if_neg k1, if_neg k2, if_neg k3, if_neg k4, if_neg k8, if_neg k9, if_neg k14]
    rw [e]
    refine CG.nilr 5 1 ?_
    repeat' first | refine go ?_ | refine vc (fun _ => ?_) fun _ => ?_ | fail
    exact ved (vrt ((none, 0), c) (Le.refl c))
theorem ownSl_c0 {p : Pk} {s : Sl} (h : s.ca = none → s.cc = 0) : (ownSl p s).ca = none → (ownSl p s).cc = 0 := by
  unfold ownSl
  repeat' split
  all_goals first | exact h | exact fun _ => rfl
theorem tn_rEncode (p : Pk) (s : Sl) (hp : p.At s c) (hn : s.ca = none → s.cc = 0) (hF : Fit p) (hr : rightP v p = true) (hL : Lays9 v p) (hP : p.props.length ≤ 1000) (hW : p.willProps.length ≤ 1000) (hB : (encL v p).length ≤ 50000) : Tn Tryz.prog 19 [.int .i64 v, p.val s] c (fun y : Option Addr × Nat => .tuple #[.slice y.1 (encL v p).length y.2, .int .i64 0]) (fun y c' => Own9 c' 5 y.1 (encL v p).length y.2 (B8 (encL v p))) := by
  have hR := right_ri hr
  have hfl := flagsN_lt hR
  have hk1 := hR.k1
  have hk2 := hR.k2
  have he : encL v p = by1 (16 * p.kind.toNat + flagsN p) ++ varL (behB v p).length ++ behB v p := if_pos hr
  rw [he] at hB ⊢
  rw [List.length_append, List.length_append, b1_len] at hB
  have cs := ck_rSame p (bareP p) s (ownSl p s) hp (ownSl_at hp) hF.few (hR.bare ▸ hF.few) hn (ownSl_c0 hn)
  have cr := ck_rRight v p s hp hF cs
  rw [← right_eq v p hF.opt hR.rest, hr] at cr
  have cf := ck_Flags8 (c := c) v p s hR
  refine Tn.in Tryz.func19 ?_
  refine go ?_
  refine vA fun b0 => ?_
  refine go ?_
  refine vt0r (rn_beh p s hp hn hF hR hL hP hW (by omega)) fun y hy => ?_
  refine vlf9 fun c1 l1 o1 => ?_
  have cf1 := cf.le (hy.trans l1)
  refine go ?_
  refine vh [0] ?_
  repeat' first | refine go ?_ | refine vqx 0 ?_ | refine vqA fun b9 => ?_ | fail
  refine vhfb fun c2 l2 r2 => ?_
  rw [show 16 * p.kind + ((flagsN p : Nat) : Int) = ((16 * p.kind.toNat + flagsN p : Nat) : Int) by omega, ← B8_by1 (16 * p.kind.toNat + flagsN p) (by omega)] at r2
  refine vqt0r9 (oy_var (n := 1) (l := by1 (16 * p.kind.toNat + flagsN p)) (x := (behB v p).length) r2 (fun h => by cases h) (by rw [b1_len]; decide) (by omega)) fun z _ => ?_
  have r1 := o1.row.le l2
  have n1 := o1.nil
  refine vqgr r1 n1 (B8_one _) (fun a' cp' => ?_) (hb := by rw [List.length_append, b1_len]; omega)
  refine go ?_
  rw [← B8_append]
  refine vef9 fun c3 l3 o3 => ?_
  rw [show (by1 (16 * p.kind.toNat + flagsN p) ++ varL (behB v p).length).length + (behB v p).length = (by1 (16 * p.kind.toNat + flagsN p) ++ varL (behB v p).length ++ behB v p).length from List.length_append.symm] at o3 ⊢
  exact ved (vrn2 ((a', cp'), c3) ⟨((hy.trans l1).trans l2).trans l3, o3⟩)
end
end Go.Proofs.YtdgmkcfkpknamaaGreatDoor
