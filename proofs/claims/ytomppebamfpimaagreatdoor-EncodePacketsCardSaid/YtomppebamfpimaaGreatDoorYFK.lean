import Derived.Test.YtomppebamfpimaaGreatDoorYFM
import Derived.Test.YtomppebamfpimaaGreatDoorYFE
import Derived.Test.YtomppebamfpimaaGreatDoorYFC
namespace Go.Proofs.YtomppebamfpimaaGreatDoor
open Go.RowKit
set_option linter.unusedVariables false
set_option linter.unusedSimpArgs false
set_option maxRecDepth 100000
theorem lN {v : Int} {p : Pk} (h : ¬ (p.kind = 11 ∧ v = 4)) : (decide (p.kind = 11) && decide (v = 4)) = false := by
 rw [Bool.and_eq_false_iff]; simp only [decide_eq_false_iff_not]; omega
theorem lD1 {v : Int} {p : Pk} (k : p.kind = 8 ∨ p.kind = 10) (l : p.filters.length < 1 ∨ 1024 < p.filters.length) : listsD v p = false := by
 unfold listsD; rw [if_pos k]
 rcases l with l | l
 ·rw [decide_eq_false (by omega : ¬ 1 ≤ p.filters.length)]; rfl
 ·rw [decide_eq_false (by omega : ¬ p.filters.length ≤ 1024)]; simp
theorem lD2 {v : Int} {p : Pk} {j : Nat} (k : p.kind = 8 ∨ p.kind = 10) (hj : j < p.filters.length) (h : optD v p.kind p.filters[j] = false) : listsD v p = false := by
 unfold listsD; rw [if_pos k, all_fail hj h]; simp
theorem lD3 {v : Int} {p : Pk} (k : p.kind = 9 ∨ (p.kind = 11 ∧ v = 5)) (l : p.codes.length < 1 ∨ 1024 < p.codes.length) : listsD v p = false := by
 unfold listsD; rw [if_pos k]
 rcases l with l | l
 ·rw [decide_eq_false (by omega : ¬ 1 ≤ p.codes.length)]; simp
 ·rw [decide_eq_false (by omega : ¬ p.codes.length ≤ 1024)]; simp
theorem lD4 {v : Int} {p : Pk} {j : Nat} (k : p.kind = 9 ∨ (p.kind = 11 ∧ v = 5)) (hj : j < p.codes.length) (h : ke v p.kind p.codes[j].toNat = false) : listsD v p = false := by
 unfold listsD; rw [if_pos k, all_fail (P := fun c => ke v p.kind c.toNat) hj h]; simp
theorem lD5 {v : Int} {p : Pk} (k : p.kind = 8 ∨ p.kind = 10) (l : ¬ (p.filters.length < 1 ∨ 1024 < p.filters.length)) (h : (p.filters.all fun f => optD v p.kind f) = true) : listsD v p = true := by
 unfold listsD; rw [if_pos k, if_neg (by omega), h, decide_eq_true (by omega : 1 ≤ p.filters.length), decide_eq_true (by omega : p.filters.length ≤ 1024), decide_eq_false (by omega : ¬ p.kind = 11)]; rfl
theorem lD6 {v : Int} {p : Pk} (k : p.kind = 9 ∨ (p.kind = 11 ∧ v = 5)) (l : ¬ (p.codes.length < 1 ∨ 1024 < p.codes.length)) (h : (p.codes.all fun c => ke v p.kind c.toNat) = true) : listsD v p = true := by
 unfold listsD; rw [if_pos k, if_neg (by omega), h, decide_eq_true (by omega : 1 ≤ p.codes.length), decide_eq_true (by omega : p.codes.length ≤ 1024)]
 rcases k with k | k
 ·rw [decide_eq_false (by omega : ¬ p.kind = 11)]; rfl
 ·rw [decide_eq_false (by omega : ¬ v = 4)]; simp
theorem lD7 {v : Int} {p : Pk} (k : ¬ (p.kind = 8 ∨ p.kind = 10)) (l : ¬ (p.kind = 9 ∨ (p.kind = 11 ∧ v = 5))) : listsD v p = !(decide (p.kind = 11) && (decide (v = 4) && decide (0 < p.codes.length))) := by
 unfold listsD; rw [if_neg k, if_neg l]; rfl
theorem rlists_any (v : Int) (p : Pk) (s : Sl) (w : World) (hp : p.At s w) (hF : Fit p) :
  Calls Tryz.prog 103 #[.int .i64 v, p.val s] w fun e w' => e = .returned (.bool (listsD v p)) ∧ Kept No w w' := by
 have hm := hF.few.hf
 have hm2 := hF.few.hc
 let RR : Ending → World → Prop := fun e w' => e = .returned (.bool (listsD v p)) ∧ Kept No w w'
 go_enter Tryz.func103, Tryz.ntmps103
 generalize hA : ({ tmps := _, defers := [] } : Act) = A
 have F : Fr A 145 [(1, (Pk.val p s)), (0, (.int .i64 v))] := by rw [← hA]; exact (Fr.cons (i := 1) (v := (Pk.val p s)) (Fr.cons (i := 0) (v := (.int .i64 v)) (Fr.nil0 rfl rfl) rfl) rfl)
 clear hA; have H := Hp.start w
 refine wp_seq_k (fun K1 hK1 => gx_region ?_)
 refine hz_new (c := (Pk.cells p s)) (t := 27) F H rfl (ex_box rfl (F.e rfl) (gx_box _ _)) ?_; clear F A; intro b2 W A hk hN H9 F; clear H; have H := H9; clear H9
 clear hk hN
 refine zd ?_; intro A F
 refine wpList_nil (hK1 _ _ ?_)
 refine wp_seq_k (fun K3 hK3 => ?_)
 refine wp_seq_k (fun K4 hK4 => gx_region ?_)
 iterate 2 (refine zd ?_; intro A F)
 refine zb (rn_eql) ?_; intro A F
 refine zd ?_; intro A F
 iterate 2 (refine zg ?_; intro A F)
 refine hz_g F rfl (hw_f F rfl rfl rfl) (fun hG => (ex_bin rfl (F.o rfl hG) gx_evc (rn_eql))) ?_; intro A F
 refine hz_do F rfl (ex_pickO rfl (F.e rfl) (fun hx => (F.o rfl (gnt hx))) rfl) ?_; intro A F
 refine wpList_nil (hK4 _ _ ?_)
 refine zc (fun hb5 => ?_) (fun hb5 => ?_)
 ·skip
  refine wp_seq_k (fun K6 hK6 => ?_)
  refine wp_seq_k (fun K7 hK7 => gx_region ?_)
  iterate 2 (refine zd ?_; intro A F)
  refine hz_do F rfl (ex_len rfl (gx_l1 (F.e rfl) gx_l0) (rn_lens Tryz.underlying24)) ?_; intro A F
  refine zb (rn_lssN (i := p.filters.length) (j := 1)) ?_; intro A F
  refine zd ?_; intro A F
  iterate 2 (refine zg ?_; intro A F)
  refine hz_g F rfl (hw_f F rfl rfl rfl) (fun hG => (ex_len rfl (gx_l1 (F.o rfl hG) gx_l0) (rn_lens Tryz.underlying24))) ?_; intro A F
  refine hz_g F rfl (hw_f F rfl rfl rfl) (fun hG => (ex_bin rfl (F.o rfl hG) gx_evc (rn_gtrN (i := p.filters.length) (j := 1024)))) ?_; intro A F
  refine hz_do F rfl (ex_pickO rfl (F.e rfl) (fun hx => (F.o rfl (gnt hx))) rfl) ?_; intro A F
  refine wpList_nil (hK7 _ _ ?_)
  refine zc (fun hb8 => ?_) (fun hb8 => ?_)
  ·skip
   replace F := (((F.nil.cons (F.g 4 _ rfl)).cons (F.g 3 _ rfl)).cons (F.g 0 _ rfl))
   refine wp_seq_k (fun K9 hK9 => gx_region ?_)
   refine zd ?_; intro A F
   refine wpList_nil (hK9 _ _ ?_)
   refine gx_ret ?_
   refine (show bodyPost _ Tryz.f103 RR Exit.ret _ _ from zr ?_)
   exact ⟨congrArg (fun b => Ending.returned (.bool b)) (by (try simp only [← Bool.not_eq_true, Bool.or_eq_true, Bool.and_eq_true, decide_eq_true_eq] at hb5 hb8); first | (exfalso; omega) | (rw [lD1 (by omega) (by omega)]) | (rw [lD3 (by omega) (by omega)]) | (rw [lD5 (by omega) (by omega) hal1, lN (by omega)]; rfl) | (rw [lD6 (by omega) (by omega) hal2, lN (by omega)]; rfl) | (rw [lD7 (by omega) (by omega)]; simp only [Bool.and_assoc])), H.k⟩
  replace F := (((F.nil.cons (F.g 4 _ rfl)).cons (F.g 3 _ rfl)).cons (F.g 0 _ rfl))
  refine wp_skip (hK6 _ _ ?_)
  refine wp_seq_k (fun K10 hK10 => gx_region ?_)
  refine zd ?_; intro A F
  refine wpList_nil (hK10 _ _ ?_)
  refine wp_block ?_
  refine hz_loop (fun (j : Nat) A W => Fr A 145 [(0, (.int .i64 v)), (3, (.pointer (some ⟨b2, 0, none⟩))), (5, (.int .i64 ((j : Int))))] ∧ Hp w W [⟨b2, 27, (Pk.cells p s)⟩] ∧ (j ≤ p.filters.length ∧ (p.filters.take j).all (fun f => optD v p.kind f) = true)) (fun j => p.filters.length - j) 0 ⟨(((F.nil.cons (gx_is (F.g 5 _ rfl) (by rfl))).cons (F.g 3 _ rfl)).cons (F.g 0 _ rfl)), H, ⟨by omega, by simp⟩⟩ (fun j A W hI J11 hJ11 => ?_)
  clear F H; obtain ⟨F, H, hj, hall⟩ := hI
  by_cases hlt : j < p.filters.length
  ·skip
   have ht12 : decide (j < p.filters.length) = true := decide_eq_true hlt
   obtain ⟨b9, off9, ha9, hbb9, q0, q1⟩ := (hp.kept H.k).hf.filt hlt
   obtain ⟨f9, hF9⟩ : ∃ f9, f9 = p.filters[j] := ⟨_, rfl⟩
   rw [← hF9] at q0 q1
   have hFo : f9.opt < 256 := hF9 ▸ hF.opt _ (List.getElem_mem hlt)
   have hFt : f9.text.size ≤ 140737488351232 := hF9 ▸ hF.r.tf _ (List.getElem_mem hlt)
   refine wp_seq_k (fun K13 hK13 => ?_)
   refine wp_seq_k (fun K14 hK14 => gx_region ?_)
   iterate 3 (refine zd ?_; intro A F)
   refine hz_do F rfl (ex_len rfl (gx_l1 (F.e rfl) gx_l0) (rn_lens Tryz.underlying24)) ?_; intro A F
   refine zb (rn_lssN (i := j) (j := p.filters.length)) ?_; intro A F
   replace F := F.hd (congrArg Value.bool ht12)
   refine wpList_nil (hK14 _ _ ?_)
   refine wp_cond_true (F.e rfl) ?_
   refine wp_skip (hK13 _ _ ?_)
   refine wp_seq_k (fun K15 hK15 => ?_)
   refine wp_block ?_
   refine wp_seq_k (fun K16 hK16 => gx_region ?_)
   iterate 3 (refine zd ?_; intro A F)
   refine hz_do F rfl (ex_idxaddr rfl ((F.e rfl).trans (show _ = Value.slice (some ⟨b9, off9, none⟩) p.filters.length s.fc from by rw [← ha9]; rfl)) (F.e rfl) (rn_idx Tryz.underlying24 (gs_83 _) hlt)) ?_; intro A F
   refine hz_do F rfl (ex_load rfl (F.e rfl) (gl_agg2 (ga_83 _) (gs_83 _) q0 q1)) ?_; intro A F
   refine hz_new (c := #[(.string ⟨#[]⟩), (.int .u8 0)]) (t := 83) F H rfl (ex_alloc rfl (al_83 _)) ?_; clear F A; intro b17 W A hk hN H9 F; clear H; have H := H9; clear H9
   clear hk hN
   obtain ⟨W9, hr, hB, hk⟩ := gx_storeAgg (P := Tryz.prog) (S := 83) (c := #[(.string f9.text), (.int .u8 ((f9.opt : Int)))]) _ (H.b.at_ (j := 0) rfl).1 (gs_83 _) rfl (by simp [Value.oneCell'])
   refine hz_st (ex_store rfl (F.e rfl) (F.e rfl) hr) ?_; clear hr; replace H : Hp _ _ [_, _] := Hp.turn [] H hk hB; clear hk hB
   refine wpList_nil (hK16 _ _ ?_)
   refine wp_seq_k (fun K18 hK18 => gx_region ?_)
   iterate 2 (refine zd ?_; intro A F)
   refine hz_call (R := fun vv ww => ∃ s1 s2, vv = .tuple #[.string s1, .string s2, .bool (sharedB f9.text)]) F H rfl (ex_call rfl rfl (gx_l1 (F.e rfl) gx_l0) fn_59) ((rshared_any f9.text _ (by omega)).mono fun e9 ww h9 => by obtain ⟨s1, s2, hs⟩ := sharedV_is f9.text; exact ⟨_, h9.1, ⟨s1, s2, hs⟩, h9.2⟩) ?_; clear F H A; intro vv W A hR hk H F; obtain ⟨s1, s2, rfl⟩ := hR
   clear hk
   iterate 7 (refine zd ?_; intro A F)
   refine wpList_nil (hK18 _ _ ?_)
   refine wp_seq_k (fun K20 hK20 => gx_region ?_)
   iterate 2 (refine zd ?_; intro A F)
   refine hz_callk F H rfl (ex_call rfl rfl (gx_l1 (F.e rfl) gx_l0) fn_116) (rfilter_any f9.text _ (by omega)) ?_; clear F H A; intro W A hk H F
   clear hk
   iterate 2 (refine zd ?_; intro A F)
   iterate 2 (refine zg ?_; intro A F)
   refine hz_g F rfl (hw_f F rfl rfl rfl) (fun hG => (ex_bin rfl (F.o rfl hG) gx_evc (rn_remN (i := f9.opt) (j := 4) (by decide)))) ?_; intro A F
   refine hz_g F rfl (hw_f F rfl rfl rfl) (fun hG => (ex_bin rfl (F.o rfl hG) gx_evc (rn_eqlN (i := (f9.opt % 4)) (j := 3)))) ?_; intro A F
   refine hz_do F rfl (ex_pickO rfl (F.e rfl) (fun hx => (F.o rfl (gnt hx))) rfl) ?_; intro A F
   refine zd ?_; intro A F
   iterate 2 (refine zg ?_; intro A F)
   refine hz_g F rfl (hw_f F rfl rfl rfl) (fun hG => (ex_bin rfl (F.o rfl hG) gx_evc (rn_eql))) ?_; intro A F
   iterate 3 (refine zg ?_; intro A F)
   refine hz_g F rfl (hw_ot F rfl rfl rfl) (fun hG => (ex_bin rfl (F.o rfl hG) gx_evc (rn_neqN (i := f9.opt) (j := 0)))) ?_; intro A F
   refine zg ?_; intro A F
   refine hz_do F rfl (ex_pickO rfl (F.e rfl) (fun hx => (F.o rfl (gnt hx))) rfl) ?_; intro A F
   refine zd ?_; intro A F
   refine zg ?_; intro A F
   refine hz_g F rfl (hw_f F rfl rfl rfl) (fun hG => (ex_bin rfl (F.o rfl hG) gx_evc (rn_eql))) ?_; intro A F
   iterate 3 (refine zg ?_; intro A F)
   refine hz_g F rfl (hw_ot F rfl rfl rfl) (fun hG => (ex_bin rfl (F.o rfl hG) gx_evc (rn_gtrN (i := f9.opt) (j := 2)))) ?_; intro A F
   refine zg ?_; intro A F
   refine hz_do F rfl (ex_pickO rfl (F.e rfl) (fun hx => (F.o rfl (gnt hx))) rfl) ?_; intro A F
   refine zd ?_; intro A F
   iterate 2 (refine zg ?_; intro A F)
   refine hz_g F rfl (hw_f F rfl rfl rfl) (fun hG => (ex_bin rfl (F.o rfl hG) gx_evc (rn_geqN (i := f9.opt) (j := 48)))) ?_; intro A F
   refine hz_do F rfl (ex_pickO rfl (F.e rfl) (fun hx => (F.o rfl (gnt hx))) rfl) ?_; intro A F
   refine zd ?_; intro A F
   iterate 4 (refine zg ?_; intro A F)
   refine hz_g F rfl (hw_ot F rfl rfl rfl) (fun hG => (ex_bin rfl (F.o rfl hG) gx_evc (rn_quoN (i := f9.opt) (j := 4) (by decide) (gx_wrap_u8 (by omega) (by omega))))) ?_; intro A F
   refine hz_g F rfl (hw_ot F rfl rfl rfl) (fun hG => (ex_bin rfl (F.o rfl hG) gx_evc (rn_remN (i := (f9.opt / 4)) (j := 2) (by decide)))) ?_; intro A F
   refine hz_g F rfl (hw_ot F rfl rfl rfl) (fun hG => (ex_bin rfl (F.o rfl hG) gx_evc (rn_eqlN (i := (((f9.opt / 4)) % 2)) (j := 1)))) ?_; intro A F
   refine zg ?_; intro A F
   refine hz_do F rfl (ex_pickO rfl (F.e rfl) (fun hx => (F.o rfl (gnt hx))) rfl) ?_; intro A F
   refine wpList_nil (hK20 _ _ ?_)
   refine zc (fun hb22 => ?_) (fun hb22 => ?_)
   ·skip
    refine wp_seq_k (fun K23 hK23 => gx_region ?_)
    refine zd ?_; intro A F
    refine wpList_nil (hK23 _ _ ?_)
    refine gx_ret ?_
    refine (show bodyPost _ Tryz.f103 RR Exit.ret _ _ from zr ?_)
    exact ⟨congrArg (fun b => Ending.returned (.bool b)) (lD2 (by (try simp only [← Bool.not_eq_true, Bool.or_eq_true, Bool.and_eq_true, decide_eq_true_eq] at hb5 hb8 ht12 hb22); omega) hlt (by rw [← hF9]; have h7 := hb22; (try simp only [Bool.or_assoc, Bool.and_assoc] at h7); unfold optD; (try simp only [Bool.or_assoc, Bool.and_assoc]); rw [h7]; rfl)).symm, H.k⟩
   refine wp_skip (hK15 _ _ ?_)
   refine gx_region ?_
   refine zd ?_; intro A F
   refine hz_do F rfl (ex_bin rfl (F.e rfl) gx_evc (rn_add (gx_wrap_i64 (by omega) (by omega)))) ?_; intro A F
   refine zd ?_; intro A F
   refine wpList_nil ?_
   exact hJ11 ((j + 1)) _ _ (by omega) ⟨(((F.nil.cons (gx_is (F.g 5 _ rfl) (by simp))).cons (F.g 3 _ rfl)).cons (F.g 0 _ rfl)), H.tl, ⟨by omega, all_step hlt hall (by rw [← hF9]; have h7 := hb22; (try simp only [Bool.or_assoc, Bool.and_assoc] at h7); unfold optD; (try simp only [Bool.or_assoc, Bool.and_assoc]); rw [h7]; rfl)⟩⟩
  have ht24 : decide (j < p.filters.length) = false := decide_eq_false hlt
  have hal1 := all_end hlt hall; clear hall hlt hj
  refine wp_seq_k (fun K25 hK25 => ?_)
  refine wp_seq_k (fun K26 hK26 => gx_region ?_)
  iterate 3 (refine zd ?_; intro A F)
  refine hz_do F rfl (ex_len rfl (gx_l1 (F.e rfl) gx_l0) (rn_lens Tryz.underlying24)) ?_; intro A F
  refine zb (rn_lssN (i := j) (j := p.filters.length)) ?_; intro A F
  replace F := F.hd (congrArg Value.bool ht24)
  refine wpList_nil (hK26 _ _ ?_)
  refine wp_cond_false (F.e rfl) ?_
  refine wp_exit ?_
  refine hK3 _ _ ?_
  refine wp_seq_k (fun K27 hK27 => ?_)
  refine wp_seq_k (fun K28 hK28 => gx_region ?_)
  iterate 2 (refine zd ?_; intro A F)
  refine zb (rn_eql) ?_; intro A F
  refine zd ?_; intro A F
  iterate 2 (refine zg ?_; intro A F)
  refine hz_g F rfl (hw_f F rfl rfl rfl) (fun hG => (ex_bin rfl (F.o rfl hG) gx_evc (rn_eql))) ?_; intro A F
  iterate 2 (refine zg ?_; intro A F)
  refine hz_g F rfl (hw_ot F rfl rfl rfl) (fun hG => (ex_bin rfl (F.o rfl hG) gx_evc (rn_eql))) ?_; intro A F
  refine zg ?_; intro A F
  refine hz_do F rfl (ex_pickO rfl (F.e rfl) (fun hx => (F.o rfl (gnt hx))) rfl) ?_; intro A F
  refine wpList_nil (hK28 _ _ ?_)
  refine zc (fun hb29 => ?_) (fun hb29 => ?_)
  ·skip
   replace F := ((F.nil.cons (F.g 3 _ rfl)).cons (F.g 0 _ rfl))
   refine wp_seq_k (fun K30 hK30 => ?_)
   refine wp_seq_k (fun K31 hK31 => gx_region ?_)
   iterate 2 (refine zd ?_; intro A F)
   refine hz_do F rfl (ex_len rfl (gx_l1 (F.e rfl) gx_l0) (rn_lens Tryz.underlying25)) ?_; intro A F
   refine zb (rn_lssN (i := p.codes.length) (j := 1)) ?_; intro A F
   refine zd ?_; intro A F
   iterate 2 (refine zg ?_; intro A F)
   refine hz_g F rfl (hw_f F rfl rfl rfl) (fun hG => (ex_len rfl (gx_l1 (F.o rfl hG) gx_l0) (rn_lens Tryz.underlying25))) ?_; intro A F
   refine hz_g F rfl (hw_f F rfl rfl rfl) (fun hG => (ex_bin rfl (F.o rfl hG) gx_evc (rn_gtrN (i := p.codes.length) (j := 1024)))) ?_; intro A F
   refine hz_do F rfl (ex_pickO rfl (F.e rfl) (fun hx => (F.o rfl (gnt hx))) rfl) ?_; intro A F
   refine wpList_nil (hK31 _ _ ?_)
   refine zc (fun hb32 => ?_) (fun hb32 => ?_)
   ·skip
    refine wp_seq_k (fun K33 hK33 => gx_region ?_)
    refine zd ?_; intro A F
    refine wpList_nil (hK33 _ _ ?_)
    refine gx_ret ?_
    refine (show bodyPost _ Tryz.f103 RR Exit.ret _ _ from zr ?_)
    exact ⟨congrArg (fun b => Ending.returned (.bool b)) (by (try simp only [← Bool.not_eq_true, Bool.or_eq_true, Bool.and_eq_true, decide_eq_true_eq] at hb5 hb8 ht24 hb29 hb32); first | (exfalso; omega) | (rw [lD1 (by omega) (by omega)]) | (rw [lD3 (by omega) (by omega)]) | (rw [lD5 (by omega) (by omega) hal1, lN (by omega)]; rfl) | (rw [lD6 (by omega) (by omega) hal2, lN (by omega)]; rfl) | (rw [lD7 (by omega) (by omega)]; simp only [Bool.and_assoc])), H.k⟩
   refine wp_skip (hK30 _ _ ?_)
   refine wp_seq_k (fun K34 hK34 => gx_region ?_)
   refine zd ?_; intro A F
   refine wpList_nil (hK34 _ _ ?_)
   refine wp_block ?_
   refine hz_loop (fun (i : Nat) A W => Fr A 145 [(0, (.int .i64 v)), (3, (.pointer (some ⟨b2, 0, none⟩))), (10, (.int .i64 ((i : Int))))] ∧ Hp w W [⟨b2, 27, (Pk.cells p s)⟩] ∧ (i ≤ p.codes.length ∧ (p.codes.take i).all (fun c => ke v p.kind c.toNat) = true)) (fun i => p.codes.length - i) 0 ⟨(((F.nil.cons (gx_is (F.g 10 _ rfl) (by rfl))).cons (F.g 3 _ rfl)).cons (F.g 0 _ rfl)), H, ⟨by omega, by simp⟩⟩ (fun i A W hI J35 hJ35 => ?_)
   clear F H; obtain ⟨F, H, hi, hali⟩ := hI
   by_cases hli : i < p.codes.length
   ·skip
    have ht36 : decide (i < p.codes.length) = true := decide_eq_true hli
    obtain ⟨b9, off9, ha9, hbb9, q0⟩ := (hp.kept H.k).hc.byte hli
    obtain ⟨f9, hF9⟩ : ∃ f9, f9 = p.codes[i] := ⟨_, rfl⟩
    rw [← hF9] at q0
    have hc8 : f9.toNat < 256 := f9.toNat_lt
    refine wp_seq_k (fun K37 hK37 => ?_)
    refine wp_seq_k (fun K38 hK38 => gx_region ?_)
    iterate 3 (refine zd ?_; intro A F)
    refine hz_do F rfl (ex_len rfl (gx_l1 (F.e rfl) gx_l0) (rn_lens Tryz.underlying25)) ?_; intro A F
    refine zb (rn_lssN (i := i) (j := p.codes.length)) ?_; intro A F
    replace F := F.hd (congrArg Value.bool ht36)
    refine wpList_nil (hK38 _ _ ?_)
    refine wp_cond_true (F.e rfl) ?_
    refine wp_skip (hK37 _ _ ?_)
    refine wp_seq_k (fun K39 hK39 => ?_)
    refine wp_block ?_
    refine wp_seq_k (fun K40 hK40 => ?_)
    refine wp_region_held_drew (S := fun wx => Hp _ wx _) (by kernel_rfl) H.drew (fun H9 => ?_); clear H; have H := H9; clear H9
    generalize World.drew _ = W at *
    refine td 0 ?_; intro A F
    refine td 1 ?_; intro A F
    refine td 2 ?_; intro A F
    refine td 3 ?_; intro A F
    refine td 4 ?_; intro A F
    refine td 5 ?_; intro A F
    refine hzh_do (i := 6) F rfl rfl (by kernel_rfl) (fun _ _ _ h => h) (H) (fun wz H => (ex_idxaddr rfl ((F.e rfl).trans (show _ = Value.slice (some ⟨b9, off9, none⟩) p.codes.length s.cc from by rw [← ha9]; rfl)) (F.e rfl) (rn_idx Tryz.underlying25 (gs1_5 _) hli))) ?_; intro A F
    refine hzh_do (i := 7) F rfl rfl (by kernel_rfl) (fun _ _ _ h => h) (H) (fun wz H => (ex_load rfl (F.e rfl) (gl_one (ag_5 _) (by obtain ⟨b8, off8, ha8, hbb8, q8⟩ := (hp.kept H.k).hc.byte hli; rw [ha9] at ha8; injection ha8 with ha8; injection ha8 with e1 e2; subst e1; subst e2; rw [← hF9] at q8; exact q8)))) ?_; intro A F
    refine hb_one (i := 8) (by kernel_rfl) (hb_callk (i := 8) F rfl rfl (ex_call rfl rfl (gx_l1 (F.e rfl) (gx_l1 (F.e rfl) (gx_l1 (F.e rfl) gx_l0))) fn_105) (rknown_any v p.kind f9.toNat _ hc8) (fun _ hk => (H.kept hk)) ?_); clear F A; intro W A hk _ F; replace H := H.kept hk
    clear hk
    refine td 9 ?_; intro A F
    refine wpAnyH_done (by kernel_rfl) ?_ _
    refine hK40 _ _ ?_
    refine zc (fun hb42 => ?_) (fun hb42 => ?_)
    ·skip
     refine wp_seq_k (fun K43 hK43 => gx_region ?_)
     refine zd ?_; intro A F
     refine wpList_nil (hK43 _ _ ?_)
     refine gx_ret ?_
     refine (show bodyPost _ Tryz.f103 RR Exit.ret _ _ from zr ?_)
     exact ⟨congrArg (fun b => Ending.returned (.bool b)) (lD4 (by (try simp only [← Bool.not_eq_true, Bool.or_eq_true, Bool.and_eq_true, decide_eq_true_eq] at hb5 hb8 ht24 hb29 hb32 ht36 hb42); omega) hli (by rw [← hF9]; exact gnf hb42)).symm, H.k⟩
    refine wp_skip (hK39 _ _ ?_)
    refine gx_region ?_
    refine zd ?_; intro A F
    refine hz_do F rfl (ex_bin rfl (F.e rfl) gx_evc (rn_add (gx_wrap_i64 (by omega) (by omega)))) ?_; intro A F
    refine zd ?_; intro A F
    refine wpList_nil ?_
    exact hJ35 ((i + 1)) _ _ (by omega) ⟨(((F.nil.cons (gx_is (F.g 10 _ rfl) (by simp))).cons (F.g 3 _ rfl)).cons (F.g 0 _ rfl)), H, ⟨by omega, all_step hli hali (by rw [← hF9]; exact gnz hb42)⟩⟩
   have ht44 : decide (i < p.codes.length) = false := decide_eq_false hli
   have hal2 := all_end hli hali; clear hali hli hi
   refine wp_seq_k (fun K45 hK45 => ?_)
   refine wp_seq_k (fun K46 hK46 => gx_region ?_)
   iterate 3 (refine zd ?_; intro A F)
   refine hz_do F rfl (ex_len rfl (gx_l1 (F.e rfl) gx_l0) (rn_lens Tryz.underlying25)) ?_; intro A F
   refine zb (rn_lssN (i := i) (j := p.codes.length)) ?_; intro A F
   replace F := F.hd (congrArg Value.bool ht44)
   refine wpList_nil (hK46 _ _ ?_)
   refine wp_cond_false (F.e rfl) ?_
   refine wp_exit ?_
   refine hK27 _ _ ?_
   refine wp_seq_k (fun K47 hK47 => gx_region ?_)
   iterate 2 (refine zd ?_; intro A F)
   refine zb (rn_eql) ?_; intro A F
   refine zd ?_; intro A F
   refine zg ?_; intro A F
   refine hz_g F rfl (hw_t F rfl rfl rfl) (fun hG => (ex_bin rfl (F.o rfl hG) gx_evc (rn_eql))) ?_; intro A F
   refine hz_do F rfl (ex_pickA rfl (F.e rfl) (fun hx => (F.o rfl hx)) rfl) ?_; intro A F
   refine zd ?_; intro A F
   iterate 2 (refine zg ?_; intro A F)
   refine hz_g F rfl (hw_t F rfl rfl rfl) (fun hG => (ex_len rfl (gx_l1 (F.o rfl hG) gx_l0) (rn_lens Tryz.underlying25))) ?_; intro A F
   refine hz_g F rfl (hw_t F rfl rfl rfl) (fun hG => (ex_bin rfl (F.o rfl hG) gx_evc (rn_gtrN (i := p.codes.length) (j := 0)))) ?_; intro A F
   refine hz_do F rfl (ex_pickA rfl (F.e rfl) (fun hx => (F.o rfl hx)) rfl) ?_; intro A F
   iterate 2 (refine zd ?_; intro A F)
   refine wpList_nil (hK47 _ _ ?_)
   refine gx_ret ?_
   refine (show bodyPost _ Tryz.f103 RR Exit.ret _ _ from zr ?_)
   exact ⟨congrArg (fun b => Ending.returned (.bool b)) (by (try simp only [← Bool.not_eq_true, Bool.or_eq_true, Bool.and_eq_true, decide_eq_true_eq] at hb5 hb8 ht24 hb29 hb32 ht44); first | (exfalso; omega) | (rw [lD1 (by omega) (by omega)]) | (rw [lD3 (by omega) (by omega)]) | (rw [lD5 (by omega) (by omega) hal1, lN (by omega)]; rfl) | (rw [lD6 (by omega) (by omega) hal2, lN (by omega)]; rfl) | (rw [lD7 (by omega) (by omega)]; simp only [Bool.and_assoc])), H.k⟩
  replace F := ((F.nil.cons (F.g 3 _ rfl)).cons (F.g 0 _ rfl))
  refine wp_skip (hK27 _ _ ?_)
  refine wp_seq_k (fun K48 hK48 => gx_region ?_)
  iterate 2 (refine zd ?_; intro A F)
  refine zb (rn_eql) ?_; intro A F
  refine zd ?_; intro A F
  refine zg ?_; intro A F
  refine hz_g F rfl (hw_t F rfl rfl rfl) (fun hG => (ex_bin rfl (F.o rfl hG) gx_evc (rn_eql))) ?_; intro A F
  refine hz_do F rfl (ex_pickA rfl (F.e rfl) (fun hx => (F.o rfl hx)) rfl) ?_; intro A F
  refine zd ?_; intro A F
  iterate 2 (refine zg ?_; intro A F)
  refine hz_g F rfl (hw_t F rfl rfl rfl) (fun hG => (ex_len rfl (gx_l1 (F.o rfl hG) gx_l0) (rn_lens Tryz.underlying25))) ?_; intro A F
  refine hz_g F rfl (hw_t F rfl rfl rfl) (fun hG => (ex_bin rfl (F.o rfl hG) gx_evc (rn_gtrN (i := p.codes.length) (j := 0)))) ?_; intro A F
  refine hz_do F rfl (ex_pickA rfl (F.e rfl) (fun hx => (F.o rfl hx)) rfl) ?_; intro A F
  iterate 2 (refine zd ?_; intro A F)
  refine wpList_nil (hK48 _ _ ?_)
  refine gx_ret ?_
  refine (show bodyPost _ Tryz.f103 RR Exit.ret _ _ from zr ?_)
  exact ⟨congrArg (fun b => Ending.returned (.bool b)) (by (try simp only [← Bool.not_eq_true, Bool.or_eq_true, Bool.and_eq_true, decide_eq_true_eq] at hb5 hb8 ht24 hb29); first | (exfalso; omega) | (rw [lD1 (by omega) (by omega)]) | (rw [lD3 (by omega) (by omega)]) | (rw [lD5 (by omega) (by omega) hal1, lN (by omega)]; rfl) | (rw [lD6 (by omega) (by omega) hal2, lN (by omega)]; rfl) | (rw [lD7 (by omega) (by omega)]; simp only [Bool.and_assoc])), H.k⟩
 refine wp_skip (hK3 _ _ ?_)
 refine wp_seq_k (fun K49 hK49 => ?_)
 refine wp_seq_k (fun K50 hK50 => gx_region ?_)
 iterate 2 (refine zd ?_; intro A F)
 refine zb (rn_eql) ?_; intro A F
 refine zd ?_; intro A F
 iterate 2 (refine zg ?_; intro A F)
 refine hz_g F rfl (hw_f F rfl rfl rfl) (fun hG => (ex_bin rfl (F.o rfl hG) gx_evc (rn_eql))) ?_; intro A F
 iterate 2 (refine zg ?_; intro A F)
 refine hz_g F rfl (hw_ot F rfl rfl rfl) (fun hG => (ex_bin rfl (F.o rfl hG) gx_evc (rn_eql))) ?_; intro A F
 refine zg ?_; intro A F
 refine hz_do F rfl (ex_pickO rfl (F.e rfl) (fun hx => (F.o rfl (gnt hx))) rfl) ?_; intro A F
 refine wpList_nil (hK50 _ _ ?_)
 refine zc (fun hb51 => ?_) (fun hb51 => ?_)
 ·skip
  replace F := (((F.nil.cons (F.g 4 _ rfl)).cons (F.g 3 _ rfl)).cons (F.g 0 _ rfl))
  refine wp_seq_k (fun K52 hK52 => ?_)
  refine wp_seq_k (fun K53 hK53 => gx_region ?_)
  iterate 2 (refine zd ?_; intro A F)
  refine hz_do F rfl (ex_len rfl (gx_l1 (F.e rfl) gx_l0) (rn_lens Tryz.underlying25)) ?_; intro A F
  refine zb (rn_lssN (i := p.codes.length) (j := 1)) ?_; intro A F
  refine zd ?_; intro A F
  iterate 2 (refine zg ?_; intro A F)
  refine hz_g F rfl (hw_f F rfl rfl rfl) (fun hG => (ex_len rfl (gx_l1 (F.o rfl hG) gx_l0) (rn_lens Tryz.underlying25))) ?_; intro A F
  refine hz_g F rfl (hw_f F rfl rfl rfl) (fun hG => (ex_bin rfl (F.o rfl hG) gx_evc (rn_gtrN (i := p.codes.length) (j := 1024)))) ?_; intro A F
  refine hz_do F rfl (ex_pickO rfl (F.e rfl) (fun hx => (F.o rfl (gnt hx))) rfl) ?_; intro A F
  refine wpList_nil (hK53 _ _ ?_)
  refine zc (fun hb54 => ?_) (fun hb54 => ?_)
  ·skip
   refine wp_seq_k (fun K55 hK55 => gx_region ?_)
   refine zd ?_; intro A F
   refine wpList_nil (hK55 _ _ ?_)
   refine gx_ret ?_
   refine (show bodyPost _ Tryz.f103 RR Exit.ret _ _ from zr ?_)
   exact ⟨congrArg (fun b => Ending.returned (.bool b)) (by (try simp only [← Bool.not_eq_true, Bool.or_eq_true, Bool.and_eq_true, decide_eq_true_eq] at hb5 hb51 hb54); first | (exfalso; omega) | (rw [lD1 (by omega) (by omega)]) | (rw [lD3 (by omega) (by omega)]) | (rw [lD5 (by omega) (by omega) hal1, lN (by omega)]; rfl) | (rw [lD6 (by omega) (by omega) hal2, lN (by omega)]; rfl) | (rw [lD7 (by omega) (by omega)]; simp only [Bool.and_assoc])), H.k⟩
  refine wp_skip (hK52 _ _ ?_)
  refine wp_seq_k (fun K56 hK56 => gx_region ?_)
  refine zd ?_; intro A F
  refine wpList_nil (hK56 _ _ ?_)
  refine wp_block ?_
  refine hz_loop (fun (i : Nat) A W => Fr A 145 [(0, (.int .i64 v)), (3, (.pointer (some ⟨b2, 0, none⟩))), (10, (.int .i64 ((i : Int))))] ∧ Hp w W [⟨b2, 27, (Pk.cells p s)⟩] ∧ (i ≤ p.codes.length ∧ (p.codes.take i).all (fun c => ke v p.kind c.toNat) = true)) (fun i => p.codes.length - i) 0 ⟨(((F.nil.cons (gx_is (F.g 10 _ rfl) (by rfl))).cons (F.g 3 _ rfl)).cons (F.g 0 _ rfl)), H, ⟨by omega, by simp⟩⟩ (fun i A W hI J57 hJ57 => ?_)
  clear F H; obtain ⟨F, H, hi, hali⟩ := hI
  by_cases hli : i < p.codes.length
  ·skip
   have ht58 : decide (i < p.codes.length) = true := decide_eq_true hli
   obtain ⟨b9, off9, ha9, hbb9, q0⟩ := (hp.kept H.k).hc.byte hli
   obtain ⟨f9, hF9⟩ : ∃ f9, f9 = p.codes[i] := ⟨_, rfl⟩
   rw [← hF9] at q0
   have hc8 : f9.toNat < 256 := f9.toNat_lt
   refine wp_seq_k (fun K59 hK59 => ?_)
   refine wp_seq_k (fun K60 hK60 => gx_region ?_)
   iterate 3 (refine zd ?_; intro A F)
   refine hz_do F rfl (ex_len rfl (gx_l1 (F.e rfl) gx_l0) (rn_lens Tryz.underlying25)) ?_; intro A F
   refine zb (rn_lssN (i := i) (j := p.codes.length)) ?_; intro A F
   replace F := F.hd (congrArg Value.bool ht58)
   refine wpList_nil (hK60 _ _ ?_)
   refine wp_cond_true (F.e rfl) ?_
   refine wp_skip (hK59 _ _ ?_)
   refine wp_seq_k (fun K61 hK61 => ?_)
   refine wp_block ?_
   refine wp_seq_k (fun K62 hK62 => ?_)
   refine wp_region_held_drew (S := fun wx => Hp _ wx _) (by kernel_rfl) H.drew (fun H9 => ?_); clear H; have H := H9; clear H9
   generalize World.drew _ = W at *
   refine td 0 ?_; intro A F
   refine td 1 ?_; intro A F
   refine td 2 ?_; intro A F
   refine td 3 ?_; intro A F
   refine td 4 ?_; intro A F
   refine td 5 ?_; intro A F
   refine hzh_do (i := 6) F rfl rfl (by kernel_rfl) (fun _ _ _ h => h) (H) (fun wz H => (ex_idxaddr rfl ((F.e rfl).trans (show _ = Value.slice (some ⟨b9, off9, none⟩) p.codes.length s.cc from by rw [← ha9]; rfl)) (F.e rfl) (rn_idx Tryz.underlying25 (gs1_5 _) hli))) ?_; intro A F
   refine hzh_do (i := 7) F rfl rfl (by kernel_rfl) (fun _ _ _ h => h) (H) (fun wz H => (ex_load rfl (F.e rfl) (gl_one (ag_5 _) (by obtain ⟨b8, off8, ha8, hbb8, q8⟩ := (hp.kept H.k).hc.byte hli; rw [ha9] at ha8; injection ha8 with ha8; injection ha8 with e1 e2; subst e1; subst e2; rw [← hF9] at q8; exact q8)))) ?_; intro A F
   refine hb_one (i := 8) (by kernel_rfl) (hb_callk (i := 8) F rfl rfl (ex_call rfl rfl (gx_l1 (F.e rfl) (gx_l1 (F.e rfl) (gx_l1 (F.e rfl) gx_l0))) fn_105) (rknown_any v p.kind f9.toNat _ hc8) (fun _ hk => (H.kept hk)) ?_); clear F A; intro W A hk _ F; replace H := H.kept hk
   clear hk
   refine td 9 ?_; intro A F
   refine wpAnyH_done (by kernel_rfl) ?_ _
   refine hK62 _ _ ?_
   refine zc (fun hb64 => ?_) (fun hb64 => ?_)
   ·skip
    refine wp_seq_k (fun K65 hK65 => gx_region ?_)
    refine zd ?_; intro A F
    refine wpList_nil (hK65 _ _ ?_)
    refine gx_ret ?_
    refine (show bodyPost _ Tryz.f103 RR Exit.ret _ _ from zr ?_)
    exact ⟨congrArg (fun b => Ending.returned (.bool b)) (lD4 (by (try simp only [← Bool.not_eq_true, Bool.or_eq_true, Bool.and_eq_true, decide_eq_true_eq] at hb5 hb51 hb54 ht58 hb64); omega) hli (by rw [← hF9]; exact gnf hb64)).symm, H.k⟩
   refine wp_skip (hK61 _ _ ?_)
   refine gx_region ?_
   refine zd ?_; intro A F
   refine hz_do F rfl (ex_bin rfl (F.e rfl) gx_evc (rn_add (gx_wrap_i64 (by omega) (by omega)))) ?_; intro A F
   refine zd ?_; intro A F
   refine wpList_nil ?_
   exact hJ57 ((i + 1)) _ _ (by omega) ⟨(((F.nil.cons (gx_is (F.g 10 _ rfl) (by simp))).cons (F.g 3 _ rfl)).cons (F.g 0 _ rfl)), H, ⟨by omega, all_step hli hali (by rw [← hF9]; exact gnz hb64)⟩⟩
  have ht66 : decide (i < p.codes.length) = false := decide_eq_false hli
  have hal2 := all_end hli hali; clear hali hli hi
  refine wp_seq_k (fun K67 hK67 => ?_)
  refine wp_seq_k (fun K68 hK68 => gx_region ?_)
  iterate 3 (refine zd ?_; intro A F)
  refine hz_do F rfl (ex_len rfl (gx_l1 (F.e rfl) gx_l0) (rn_lens Tryz.underlying25)) ?_; intro A F
  refine zb (rn_lssN (i := i) (j := p.codes.length)) ?_; intro A F
  replace F := F.hd (congrArg Value.bool ht66)
  refine wpList_nil (hK68 _ _ ?_)
  refine wp_cond_false (F.e rfl) ?_
  refine wp_exit ?_
  refine hK49 _ _ ?_
  refine wp_seq_k (fun K69 hK69 => gx_region ?_)
  iterate 2 (refine zd ?_; intro A F)
  refine zb (rn_eql) ?_; intro A F
  refine zd ?_; intro A F
  refine zg ?_; intro A F
  refine hz_g F rfl (hw_t F rfl rfl rfl) (fun hG => (ex_bin rfl (F.o rfl hG) gx_evc (rn_eql))) ?_; intro A F
  refine hz_do F rfl (ex_pickA rfl (F.e rfl) (fun hx => (F.o rfl hx)) rfl) ?_; intro A F
  refine zd ?_; intro A F
  iterate 2 (refine zg ?_; intro A F)
  refine hz_g F rfl (hw_t F rfl rfl rfl) (fun hG => (ex_len rfl (gx_l1 (F.o rfl hG) gx_l0) (rn_lens Tryz.underlying25))) ?_; intro A F
  refine hz_g F rfl (hw_t F rfl rfl rfl) (fun hG => (ex_bin rfl (F.o rfl hG) gx_evc (rn_gtrN (i := p.codes.length) (j := 0)))) ?_; intro A F
  refine hz_do F rfl (ex_pickA rfl (F.e rfl) (fun hx => (F.o rfl hx)) rfl) ?_; intro A F
  iterate 2 (refine zd ?_; intro A F)
  refine wpList_nil (hK69 _ _ ?_)
  refine gx_ret ?_
  refine (show bodyPost _ Tryz.f103 RR Exit.ret _ _ from zr ?_)
  exact ⟨congrArg (fun b => Ending.returned (.bool b)) (by (try simp only [← Bool.not_eq_true, Bool.or_eq_true, Bool.and_eq_true, decide_eq_true_eq] at hb5 hb51 hb54 ht66); first | (exfalso; omega) | (rw [lD1 (by omega) (by omega)]) | (rw [lD3 (by omega) (by omega)]) | (rw [lD5 (by omega) (by omega) hal1, lN (by omega)]; rfl) | (rw [lD6 (by omega) (by omega) hal2, lN (by omega)]; rfl) | (rw [lD7 (by omega) (by omega)]; simp only [Bool.and_assoc])), H.k⟩
 replace F := (((F.nil.cons (F.g 4 _ rfl)).cons (F.g 3 _ rfl)).cons (F.g 0 _ rfl))
 refine wp_skip (hK49 _ _ ?_)
 refine wp_seq_k (fun K70 hK70 => gx_region ?_)
 iterate 2 (refine zd ?_; intro A F)
 refine zb (rn_eql) ?_; intro A F
 refine zd ?_; intro A F
 refine zg ?_; intro A F
 refine hz_g F rfl (hw_t F rfl rfl rfl) (fun hG => (ex_bin rfl (F.o rfl hG) gx_evc (rn_eql))) ?_; intro A F
 refine hz_do F rfl (ex_pickA rfl (F.e rfl) (fun hx => (F.o rfl hx)) rfl) ?_; intro A F
 refine zd ?_; intro A F
 iterate 2 (refine zg ?_; intro A F)
 refine hz_g F rfl (hw_t F rfl rfl rfl) (fun hG => (ex_len rfl (gx_l1 (F.o rfl hG) gx_l0) (rn_lens Tryz.underlying25))) ?_; intro A F
 refine hz_g F rfl (hw_t F rfl rfl rfl) (fun hG => (ex_bin rfl (F.o rfl hG) gx_evc (rn_gtrN (i := p.codes.length) (j := 0)))) ?_; intro A F
 refine hz_do F rfl (ex_pickA rfl (F.e rfl) (fun hx => (F.o rfl hx)) rfl) ?_; intro A F
 iterate 2 (refine zd ?_; intro A F)
 refine wpList_nil (hK70 _ _ ?_)
 refine gx_ret ?_
 refine (show bodyPost _ Tryz.f103 RR Exit.ret _ _ from zr ?_)
 exact ⟨congrArg (fun b => Ending.returned (.bool b)) (by (try simp only [← Bool.not_eq_true, Bool.or_eq_true, Bool.and_eq_true, decide_eq_true_eq] at hb5 hb51); first | (exfalso; omega) | (rw [lD1 (by omega) (by omega)]) | (rw [lD3 (by omega) (by omega)]) | (rw [lD5 (by omega) (by omega) hal1, lN (by omega)]; rfl) | (rw [lD6 (by omega) (by omega) hal2, lN (by omega)]; rfl) | (rw [lD7 (by omega) (by omega)]; simp only [Bool.and_assoc])), H.k⟩
theorem rightD_eq (v : Int) (p : Pk) : rightD v p = bif ((((((!decide (v = 4)) && (!decide (v = 5))) || (decide (p.kind < 1))) || (decide (15 < p.kind))) || ((decide (v = 4)) && (decide (p.kind = 15)))) || (!(decide (p = bareP p)))) then false else bif ((((decide (v = 4)) && ((decide (0 < p.props.length)) || (decide (0 < p.willProps.length)))) || (!(checkB p.kind p.props))) || (!(checkB 16 p.willProps))) then false else bif ((((decide (4 ≤ p.kind)) && (decide (p.kind ≤ 11))) && (decide (p.id = 0))) || (!(listsD v p))) then false else kindD v p := by
 have hE : existsB v p.kind = !((((!decide (v = 4) && !decide (v = 5)) || decide (p.kind < 1)) || decide (15 < p.kind)) || (decide (v = 4) && decide (p.kind = 15))) := by
  unfold existsB
  rw [Bool.eq_iff_iff]
  simp only [Bool.or_eq_true, Bool.and_eq_true, Bool.not_eq_true', Bool.or_eq_false_iff, Bool.and_eq_false_iff, decide_eq_true_eq, decide_eq_false_iff_not, Bool.not_eq_false', Bool.not_eq_eq_eq_not, Bool.not_true, Bool.not_false]
  omega
 unfold rightD
 rw [hE]
 generalize ((((!decide (v = 4) && !decide (v = 5)) || decide (p.kind < 1)) || decide (15 < p.kind)) || (decide (v = 4) && decide (p.kind = 15))) = x1
 generalize decide (p = bareP p) = x2
 generalize decide (0 < p.props.length) = x3
 generalize decide (0 < p.willProps.length) = x4
 generalize checkB p.kind p.props = x5
 generalize checkB 16 p.willProps = x6
 generalize decide (4 ≤ p.kind) = x7
 generalize decide (p.kind ≤ 11) = x8
 generalize decide (p.id = 0) = x9
 generalize listsD v p = xa
 generalize kindD v p = xb
 generalize decide (v = 4) = xc
 cases x1 <;> cases x2 <;> cases x5 <;> cases x6 <;> cases xa <;> simp
 all_goals (cases x3 <;> cases x4 <;> cases x7 <;> cases x8 <;> cases x9 <;> cases xc <;> simp)
theorem rpkRight_any (v : Int) (p : Pk) (s : Sl) (w : World) (hp : p.At s w) (hF : Fit p) (hcn : s.ca = none → p.codes.length = 0 ∧ s.cc = 0) :
  Calls Tryz.prog 45 #[.int .i64 v, p.val s] w fun e w' => e = .returned (.bool (rightD v p)) ∧ Kept No w w' := by
 let RR : Ending → World → Prop := fun e w' => e = .returned (.bool (rightD v p)) ∧ Kept No w w'
 go_enter Tryz.func45, Tryz.ntmps45
 generalize hA : ({ tmps := _, defers := [] } : Act) = A
 have F : Fr A 141 [(1, (Pk.val p s)), (0, (.int .i64 v))] := by rw [← hA]; exact (Fr.cons (i := 1) (v := (Pk.val p s)) (Fr.cons (i := 0) (v := (.int .i64 v)) (Fr.nil0 rfl rfl) rfl) rfl)
 clear hA; have H := Hp.start w
 refine wp_seq_k (fun K1 hK1 => gx_region ?_)
 refine hz_new (c := (Pk.cells p s)) (t := 27) F H rfl (ex_box rfl (F.e rfl) (gx_box _ _)) ?_; clear F A; intro b2 W A hk hN H9 F; clear H; have H := H9; clear H9
 clear hk hN
 refine zd ?_; intro A F
 refine wpList_nil (hK1 _ _ ?_)
 refine wp_seq_k (fun K3 hK3 => ?_)
 refine wp_seq_k (fun K4 hK4 => ?_)
 refine wp_region_held_drew (S := fun wx => Hp _ wx _) (by kernel_rfl) H.drew (fun H9 => ?_); clear H; have H := H9; clear H9
 generalize World.drew _ = W at *
 refine td 0 ?_; intro A F
 refine hzh_do (i := 1) F rfl rfl (by kernel_rfl) (fun _ _ _ h => h) (H) (fun wz H => (ex_bin rfl (F.e rfl) gx_evc (rn_neq))) ?_; intro A F
 refine td 2 ?_; intro A F
 refine hzh_g (i := 3) F rfl rfl (by kernel_rfl) (fun _ _ _ _ h => h) (H) (hw_t F rfl rfl rfl) (fun hG wz H => (ex_move rfl (F.e rfl))) ?_; intro A F
 refine hzh_g (i := 4) F rfl rfl (by kernel_rfl) (fun _ _ _ _ h => h) (H) (hw_t F rfl rfl rfl) (fun hG wz H => (ex_bin rfl (F.o rfl hG) gx_evc (rn_neq))) ?_; intro A F
 refine hzh_do (i := 5) F rfl rfl (by kernel_rfl) (fun _ _ _ h => h) (H) (fun wz H => (ex_pickA rfl (F.e rfl) (fun hx => (F.o rfl hx)) rfl)) ?_; intro A F
 refine td 6 ?_; intro A F
 refine hzh_g (i := 7) F rfl rfl (by kernel_rfl) (fun _ _ _ _ h => h) (H) (hw_f F rfl rfl rfl) (fun hG wz H => (ex_faddr rfl (F.e rfl) (fa_27_0 _ _ _))) ?_; intro A F
 refine hzh_g (i := 8) F rfl rfl (by kernel_rfl) (fun _ _ _ _ h => h) (H) (hw_f F rfl rfl rfl) (fun hG wz H => (ex_load rfl (F.o rfl hG) (gl_one (ag_3 _) (H.c 0 rfl rfl)))) ?_; intro A F
 refine hzh_g (i := 9) F rfl rfl (by kernel_rfl) (fun _ _ _ _ h => h) (H) (hw_f F rfl rfl rfl) (fun hG wz H => (ex_bin rfl (F.o rfl hG) gx_evc (rn_lss))) ?_; intro A F
 refine hzh_do (i := 10) F rfl rfl (by kernel_rfl) (fun _ _ _ h => h) (H) (fun wz H => (ex_pickO rfl (F.e rfl) (fun hx => (F.o rfl (gnt hx))) rfl)) ?_; intro A F
 refine td 11 ?_; intro A F
 refine hzh_g (i := 12) F rfl rfl (by kernel_rfl) (fun _ _ _ _ h => h) (H) (hw_f F rfl rfl rfl) (fun hG wz H => (ex_faddr rfl (F.e rfl) (fa_27_0 _ _ _))) ?_; intro A F
 refine hzh_g (i := 13) F rfl rfl (by kernel_rfl) (fun _ _ _ _ h => h) (H) (hw_f F rfl rfl rfl) (fun hG wz H => (ex_load rfl (F.o rfl hG) (gl_one (ag_3 _) (H.c 0 rfl rfl)))) ?_; intro A F
 refine hzh_g (i := 14) F rfl rfl (by kernel_rfl) (fun _ _ _ _ h => h) (H) (hw_f F rfl rfl rfl) (fun hG wz H => (ex_bin rfl (F.o rfl hG) gx_evc (rn_gtr))) ?_; intro A F
 refine hzh_do (i := 15) F rfl rfl (by kernel_rfl) (fun _ _ _ h => h) (H) (fun wz H => (ex_pickO rfl (F.e rfl) (fun hx => (F.o rfl (gnt hx))) rfl)) ?_; intro A F
 refine td 16 ?_; intro A F
 refine hzh_g (i := 17) F rfl rfl (by kernel_rfl) (fun _ _ _ _ h => h) (H) (hw_f F rfl rfl rfl) (fun hG wz H => (ex_move rfl (F.e rfl))) ?_; intro A F
 refine hzh_g (i := 18) F rfl rfl (by kernel_rfl) (fun _ _ _ _ h => h) (H) (hw_f F rfl rfl rfl) (fun hG wz H => (ex_bin rfl (F.o rfl hG) gx_evc (rn_eql))) ?_; intro A F
 refine hzh_g (i := 19) F rfl rfl (by kernel_rfl) (fun _ _ _ _ h => h) (H) (hw_f F rfl rfl rfl) (fun hG wz H => (ex_move rfl (F.o rfl hG))) ?_; intro A F
 refine hzh_g (i := 20) F rfl rfl (by kernel_rfl) (fun _ _ _ _ h => h) (H) (hw_ot F rfl rfl rfl) (fun hG wz H => (ex_faddr rfl (F.e rfl) (fa_27_0 _ _ _))) ?_; intro A F
 refine hzh_g (i := 21) F rfl rfl (by kernel_rfl) (fun _ _ _ _ h => h) (H) (hw_ot F rfl rfl rfl) (fun hG wz H => (ex_load rfl (F.o rfl hG) (gl_one (ag_3 _) (H.c 0 rfl rfl)))) ?_; intro A F
 refine hzh_g (i := 22) F rfl rfl (by kernel_rfl) (fun _ _ _ _ h => h) (H) (hw_ot F rfl rfl rfl) (fun hG wz H => (ex_bin rfl (F.o rfl hG) gx_evc (rn_eql))) ?_; intro A F
 refine hzh_g (i := 23) F rfl rfl (by kernel_rfl) (fun _ _ _ _ h => h) (H) (hw_f F rfl rfl rfl) (fun hG wz H => (ex_pickA rfl (F.o rfl hG) (fun hx => (F.o rfl (gai hG hx))) rfl)) ?_; intro A F
 refine hzh_do (i := 24) F rfl rfl (by kernel_rfl) (fun _ _ _ h => h) (H) (fun wz H => (ex_pickO rfl (F.e rfl) (fun hx => (F.o rfl (gnt hx))) rfl)) ?_; intro A F
 refine td 25 ?_; intro A F
 refine hzh_g (i := 26) F rfl rfl (by kernel_rfl) (fun _ _ _ _ h => h) (H) (hw_f F rfl rfl rfl) (fun hG wz H => (ex_load rfl (F.e rfl) (gl_agg ((Pk.cells p s)) rfl (ga_27 _) (gs_27 _) (fun i => H.cs 0 rfl i)))) ?_; intro A F
 refine hzh_g (i := 27) F rfl rfl (by kernel_rfl) (fun _ _ _ _ h => h) (H) (hw_f F rfl rfl rfl) (fun hG wz H => (ex_load rfl (F.e rfl) (gl_agg ((Pk.cells p s)) rfl (ga_27 _) (gs_27 _) (fun i => H.cs 0 rfl i)))) ?_; intro A F
 refine hzh_callg (i := 28) F rfl rfl (by kernel_rfl) (hw_f F rfl rfl rfl) (fun hG => (ex_call rfl rfl (gx_l1 (F.o rfl hG) gx_l0) fn_60)) (fun hG => rbare_any p s _ (hp.kept H.k)) (fun _ hk => H.kept hk) ?_; clear F H A; intro W A hk H F
 clear hk
 refine hzh_callg (i := 29) F rfl rfl (by kernel_rfl) (hw_f F rfl rfl rfl) (fun hG => (ex_call rfl rfl (gx_l1 (F.o rfl hG) (gx_l1 (F.o rfl hG) gx_l0)) fn_23)) (fun hG => rpksame2_any p (bareP p) s (ownSl p s) _ (hp.kept H.k) (ownSl_at (hp.kept H.k)) hF.few (bare_few hF.few) ⟨fun h => (hcn h).2⟩ ⟨fun h => ownSl_codes hcn h⟩) (fun _ hk => H.kept hk) ?_; clear F H A; intro W A hk H F
 clear hk
 refine hzh_g (i := 30) F rfl rfl (by kernel_rfl) (fun _ _ _ _ h => h) (H) (hw_f F rfl rfl rfl) (fun hG wz H => (ex_not rfl (F.o rfl hG))) ?_; intro A F
 refine hzh_do (i := 31) F rfl rfl (by kernel_rfl) (fun _ _ _ h => h) (H) (fun wz H => (ex_pickO rfl (F.e rfl) (fun hx => (F.o rfl (gnt hx))) rfl)) ?_; intro A F
 refine wpAnyH_done (by kernel_rfl) ?_ _
 refine hK4 _ _ ?_
 refine zc (fun hb7 => ?_) (fun hb7 => ?_)
 ·skip
  replace F := (((F.nil.cons (F.g 4 _ rfl)).cons (F.g 3 _ rfl)).cons (F.g 0 _ rfl))
  refine wp_seq_k (fun K8 hK8 => gx_region ?_)
  refine zd ?_; intro A F
  refine wpList_nil (hK8 _ _ ?_)
  refine gx_ret ?_
  refine (show bodyPost _ Tryz.f45 RR Exit.ret _ _ from zr ?_)
  exact ⟨congrArg (fun b => Ending.returned (.bool b)) (by rw [rightD_eq]; simp only [hb7, cond_true, cond_false]), H.k⟩
 replace F := (((F.nil.cons (F.g 4 _ rfl)).cons (F.g 3 _ rfl)).cons (F.g 0 _ rfl))
 refine wp_skip (hK3 _ _ ?_)
 refine wp_seq_k (fun K9 hK9 => ?_)
 refine wp_seq_k (fun K10 hK10 => gx_region ?_)
 refine zd ?_; intro A F
 refine zb (rn_eql) ?_; intro A F
 refine zd ?_; intro A F
 iterate 2 (refine zg ?_; intro A F)
 refine hz_g F rfl (hw_t F rfl rfl rfl) (fun hG => (ex_len rfl (gx_l1 (F.o rfl hG) gx_l0) (rn_lens Tryz.underlying23))) ?_; intro A F
 refine zgb (rn_gtrN (i := p.props.length) (j := 0)) ?_; intro A F
 iterate 3 (refine zg ?_; intro A F)
 refine hz_g F rfl (hw_of F rfl rfl rfl) (fun hG => (ex_len rfl (gx_l1 (F.o rfl hG) gx_l0) (rn_lens Tryz.underlying23))) ?_; intro A F
 refine zgb (rn_gtrN (i := p.willProps.length) (j := 0)) ?_; intro A F
 refine zg ?_; intro A F
 refine hz_do F rfl (ex_pickA rfl (F.e rfl) (fun hx => (F.o rfl hx)) rfl) ?_; intro A F
 refine zd ?_; intro A F
 iterate 4 (refine zg ?_; intro A F)
 refine hz_callg F H rfl (hw_f F rfl rfl rfl) (fun hG => (ex_call rfl rfl (gx_l1 (F.o rfl hG) (gx_l1 (F.o rfl hG) gx_l0)) fn_102)) (fun hG => rcheck_any p.kind s.pa s.pc p.props _ (hp.kept H.k).hp hF.few.hp hF.wf.p) ?_; clear F H A; intro W A hk H F
 clear hk
 refine zg ?_; intro A F
 refine hz_do F rfl (ex_pickO rfl (F.e rfl) (fun hx => (F.o rfl (gnt hx))) rfl) ?_; intro A F
 refine zd ?_; intro A F
 iterate 2 (refine zg ?_; intro A F)
 refine hz_callg F H rfl (hw_f F rfl rfl rfl) (fun hG => (ex_call rfl rfl (gx_l1 gx_evc (gx_l1 (F.o rfl hG) gx_l0)) fn_102)) (fun hG => rcheck_any 16 s.wa s.wc p.willProps _ (hp.kept H.k).hw hF.few.hw hF.wf.w) ?_; clear F H A; intro W A hk H F
 clear hk
 refine zg ?_; intro A F
 refine hz_do F rfl (ex_pickO rfl (F.e rfl) (fun hx => (F.o rfl (gnt hx))) rfl) ?_; intro A F
 refine wpList_nil (hK10 _ _ ?_)
 refine zc (fun hb13 => ?_) (fun hb13 => ?_)
 ·skip
  replace F := (((F.nil.cons (F.g 4 _ rfl)).cons (F.g 3 _ rfl)).cons (F.g 0 _ rfl))
  refine wp_seq_k (fun K14 hK14 => gx_region ?_)
  refine zd ?_; intro A F
  refine wpList_nil (hK14 _ _ ?_)
  refine gx_ret ?_
  refine (show bodyPost _ Tryz.f45 RR Exit.ret _ _ from zr ?_)
  exact ⟨congrArg (fun b => Ending.returned (.bool b)) (by rw [rightD_eq]; simp only [hb7, hb13, cond_true, cond_false]), H.k⟩
 replace F := (((F.nil.cons (F.g 4 _ rfl)).cons (F.g 3 _ rfl)).cons (F.g 0 _ rfl))
 refine wp_skip (hK9 _ _ ?_)
 refine wp_seq_k (fun K15 hK15 => ?_)
 refine wp_seq_k (fun K16 hK16 => gx_region ?_)
 iterate 2 (refine zd ?_; intro A F)
 refine zb (rn_geq) ?_; intro A F
 refine zd ?_; intro A F
 iterate 2 (refine zg ?_; intro A F)
 refine zgb (rn_leq) ?_; intro A F
 refine hz_do F rfl (ex_pickA rfl (F.e rfl) (fun hx => (F.o rfl hx)) rfl) ?_; intro A F
 refine zd ?_; intro A F
 iterate 2 (refine zg ?_; intro A F)
 refine zgb (rn_eqlN (i := p.id) (j := 0)) ?_; intro A F
 refine hz_do F rfl (ex_pickA rfl (F.e rfl) (fun hx => (F.o rfl hx)) rfl) ?_; intro A F
 refine zd ?_; intro A F
 refine zg ?_; intro A F
 refine hz_g F rfl (hw_f F rfl rfl rfl) (fun hG => (ex_load rfl (F.e rfl) (gl_agg ((Pk.cells p s)) rfl (ga_27 _) (gs_27 _) (fun i => H.cs 0 rfl i)))) ?_; intro A F
 refine hz_callg F H rfl (hw_f F rfl rfl rfl) (fun hG => (ex_call rfl rfl (gx_l1 (F.o rfl hG) (gx_l1 (F.o rfl hG) gx_l0)) fn_103)) (fun hG => rlists_any v p s _ (hp.kept H.k) hF) ?_; clear F H A; intro W A hk H F
 clear hk
 refine zg ?_; intro A F
 refine hz_do F rfl (ex_pickO rfl (F.e rfl) (fun hx => (F.o rfl (gnt hx))) rfl) ?_; intro A F
 refine wpList_nil (hK16 _ _ ?_)
 refine zc (fun hb18 => ?_) (fun hb18 => ?_)
 ·skip
  replace F := (((F.nil.cons (F.g 4 _ rfl)).cons (F.g 3 _ rfl)).cons (F.g 0 _ rfl))
  refine wp_seq_k (fun K19 hK19 => gx_region ?_)
  refine zd ?_; intro A F
  refine wpList_nil (hK19 _ _ ?_)
  refine gx_ret ?_
  refine (show bodyPost _ Tryz.f45 RR Exit.ret _ _ from zr ?_)
  exact ⟨congrArg (fun b => Ending.returned (.bool b)) (by rw [rightD_eq]; simp only [hb7, hb13, hb18, cond_true, cond_false]), H.k⟩
 replace F := (((F.nil.cons (F.g 4 _ rfl)).cons (F.g 3 _ rfl)).cons (F.g 0 _ rfl))
 refine wp_skip (hK15 _ _ ?_)
 refine wp_seq_k (fun K20 hK20 => ?_)
 refine wp_seq_k (fun K21 hK21 => gx_region ?_)
 iterate 2 (refine zd ?_; intro A F)
 refine wpList_nil (hK21 _ _ ?_)
 refine wp_block ?_
 refine wp_seq_k (fun K22 hK22 => gx_region ?_)
 refine zb (rn_eql) ?_; intro A F
 refine zd ?_; intro A F
 refine wpList_nil (hK22 _ _ ?_)
 refine zc (fun hb23 => ?_) (fun hb23 => ?_)
 ·skip
  refine wp_seq_k (fun K24 hK24 => gx_region ?_)
  refine zd ?_; intro A F
  refine hz_do F rfl (ex_load rfl (F.e rfl) (gl_agg ((Pk.cells p s)) rfl (ga_27 _) (gs_27 _) (fun i => H.cs 0 rfl i))) ?_; intro A F
  refine hz_callk F H rfl (ex_call rfl rfl (gx_l1 (F.e rfl) (gx_l1 (F.e rfl) gx_l0)) fn_104) (rconnect_any v p s _ (hp.kept H.k) hF) ?_; clear F H A; intro W A hk H F
  clear hk
  refine zd ?_; intro A F
  refine wpList_nil (hK24 _ _ ?_)
  refine gx_ret ?_
  refine (show bodyPost _ Tryz.f45 RR Exit.ret _ _ from zr ?_)
  exact ⟨congrArg (fun b => Ending.returned (.bool b)) (by rw [rightD_eq]; simp only [hb7, hb13, hb18, cond_true, cond_false]; (try simp only [← Bool.not_eq_true, Bool.or_eq_true, Bool.and_eq_true, decide_eq_true_eq] at hb23); unfold kindD; simp only [hb23, ↓reduceIte, or_true, true_or, or_self, Int.reduceEq, or_false, false_or] <;> (first | done | rfl | (simp; done) | (simp_all; done))), H.k⟩
 refine wp_seq_k (fun K26 hK26 => gx_region ?_)
 refine zb (rn_eql) ?_; intro A F
 refine zd ?_; intro A F
 refine wpList_nil (hK26 _ _ ?_)
 refine zc (fun hb27 => ?_) (fun hb27 => ?_)
 ·skip
  refine wp_seq_k (fun K28 hK28 => gx_region ?_)
  iterate 3 (refine zd ?_; intro A F)
  refine hz_callk F H rfl (ex_call rfl rfl (gx_l1 (F.e rfl) (gx_l1 gx_evc (gx_l1 (F.e rfl) gx_l0))) fn_105) (rknown_any v 2 p.code _ hF.code) ?_; clear F H A; intro W A hk H F
  clear hk
  refine zd ?_; intro A F
  iterate 5 (refine zg ?_; intro A F)
  refine zgb (rn_neqN (i := p.code) (j := 0)) ?_; intro A F
  iterate 2 (refine zg ?_; intro A F)
  refine hz_do F rfl (ex_pickA rfl (F.e rfl) (fun hx => (F.o rfl hx)) rfl) ?_; intro A F
  refine zd ?_; intro A F
  refine wpList_nil (hK28 _ _ ?_)
  refine gx_ret ?_
  refine (show bodyPost _ Tryz.f45 RR Exit.ret _ _ from zr ?_)
  exact ⟨congrArg (fun b => Ending.returned (.bool b)) (by rw [rightD_eq]; simp only [hb7, hb13, hb18, cond_true, cond_false]; (try simp only [← Bool.not_eq_true, Bool.or_eq_true, Bool.and_eq_true, decide_eq_true_eq] at hb23 hb27); unfold kindD; simp only [hb23, hb27, ↓reduceIte, or_true, true_or, or_self, Int.reduceEq, or_false, false_or] <;> (first | done | rfl | (simp; done) | (simp_all; done))), H.k⟩
 refine wp_seq_k (fun K30 hK30 => gx_region ?_)
 refine zb (rn_eql) ?_; intro A F
 refine zd ?_; intro A F
 refine wpList_nil (hK30 _ _ ?_)
 refine zc (fun hb31 => ?_) (fun hb31 => ?_)
 ·skip
  refine wp_seq_k (fun K32 hK32 => gx_region ?_)
  refine zd ?_; intro A F
  refine hz_do F rfl (ex_load rfl (F.e rfl) (gl_agg ((Pk.cells p s)) rfl (ga_27 _) (gs_27 _) (fun i => H.cs 0 rfl i))) ?_; intro A F
  refine hz_callk F H rfl (ex_call rfl rfl (gx_l1 (F.e rfl) (gx_l1 (F.e rfl) gx_l0)) fn_106) (rpublish_any v p s _ (hp.kept H.k) hF) ?_; clear F H A; intro W A hk H F
  clear hk
  refine zd ?_; intro A F
  refine wpList_nil (hK32 _ _ ?_)
  refine gx_ret ?_
  refine (show bodyPost _ Tryz.f45 RR Exit.ret _ _ from zr ?_)
  exact ⟨congrArg (fun b => Ending.returned (.bool b)) (by rw [rightD_eq]; simp only [hb7, hb13, hb18, cond_true, cond_false]; (try simp only [← Bool.not_eq_true, Bool.or_eq_true, Bool.and_eq_true, decide_eq_true_eq] at hb23 hb27 hb31); unfold kindD; simp only [hb23, hb27, hb31, ↓reduceIte, or_true, true_or, or_self, Int.reduceEq, or_false, false_or] <;> (first | done | rfl | (simp; done) | (simp_all; done))), H.k⟩
 refine wp_seq_k (fun K34 hK34 => ?_)
 refine wp_seq_k (fun K35 hK35 => gx_region ?_)
 refine zb (rn_eql) ?_; intro A F
 refine zd ?_; intro A F
 refine wpList_nil (hK35 _ _ ?_)
 refine zc (fun hb36 => ?_) (fun hb36 => ?_)
 ·skip
  refine wp_skip (hK34 _ _ ?_)
  refine wp_cond_true ((F.e rfl).trans (congrArg Value.bool hb36)) ?_
  refine wp_seq_k (fun K37 hK37 => gx_region ?_)
  iterate 5 (refine zd ?_; intro A F)
  refine hz_callk F H rfl (ex_call rfl rfl (gx_l1 (F.e rfl) (gx_l1 (F.e rfl) (gx_l1 (F.e rfl) gx_l0))) fn_105) (rknown_any v p.kind p.code _ hF.code) ?_; clear F H A; intro W A hk H F
  clear hk
  refine zd ?_; intro A F
  refine wpList_nil (hK37 _ _ ?_)
  refine gx_ret ?_
  refine (show bodyPost _ Tryz.f45 RR Exit.ret _ _ from zr ?_)
  exact ⟨congrArg (fun b => Ending.returned (.bool b)) (by rw [rightD_eq]; simp only [hb7, hb13, hb18, cond_true, cond_false]; (try simp only [← Bool.not_eq_true, Bool.or_eq_true, Bool.and_eq_true, decide_eq_true_eq] at hb23 hb27 hb31 hb36); unfold kindD; simp only [hb23, hb27, hb31, hb36, ↓reduceIte, or_true, true_or, or_self, Int.reduceEq, or_false, false_or] <;> (first | done | rfl | (simp; done) | (simp_all; done))), H.k⟩
 refine wp_seq_k (fun K39 hK39 => gx_region ?_)
 refine zb (rn_eql) ?_; intro A F
 refine zd ?_; intro A F
 refine wpList_nil (hK39 _ _ ?_)
 refine zc (fun hb40 => ?_) (fun hb40 => ?_)
 ·skip
  refine wp_skip (hK34 _ _ ?_)
  refine wp_cond_true ((F.e rfl).trans (congrArg Value.bool hb40)) ?_
  refine wp_seq_k (fun K41 hK41 => gx_region ?_)
  iterate 5 (refine zd ?_; intro A F)
  refine hz_callk F H rfl (ex_call rfl rfl (gx_l1 (F.e rfl) (gx_l1 (F.e rfl) (gx_l1 (F.e rfl) gx_l0))) fn_105) (rknown_any v p.kind p.code _ hF.code) ?_; clear F H A; intro W A hk H F
  clear hk
  refine zd ?_; intro A F
  refine wpList_nil (hK41 _ _ ?_)
  refine gx_ret ?_
  refine (show bodyPost _ Tryz.f45 RR Exit.ret _ _ from zr ?_)
  exact ⟨congrArg (fun b => Ending.returned (.bool b)) (by rw [rightD_eq]; simp only [hb7, hb13, hb18, cond_true, cond_false]; (try simp only [← Bool.not_eq_true, Bool.or_eq_true, Bool.and_eq_true, decide_eq_true_eq] at hb23 hb27 hb31 hb36 hb40); unfold kindD; simp only [hb23, hb27, hb31, hb36, hb40, ↓reduceIte, or_true, true_or, or_self, Int.reduceEq, or_false, false_or] <;> (first | done | rfl | (simp; done) | (simp_all; done))), H.k⟩
 refine wp_seq_k (fun K43 hK43 => gx_region ?_)
 refine zb (rn_eql) ?_; intro A F
 refine zd ?_; intro A F
 refine wpList_nil (hK43 _ _ ?_)
 refine zc (fun hb44 => ?_) (fun hb44 => ?_)
 ·skip
  refine wp_skip (hK34 _ _ ?_)
  refine wp_cond_true ((F.e rfl).trans (congrArg Value.bool hb44)) ?_
  refine wp_seq_k (fun K45 hK45 => gx_region ?_)
  iterate 5 (refine zd ?_; intro A F)
  refine hz_callk F H rfl (ex_call rfl rfl (gx_l1 (F.e rfl) (gx_l1 (F.e rfl) (gx_l1 (F.e rfl) gx_l0))) fn_105) (rknown_any v p.kind p.code _ hF.code) ?_; clear F H A; intro W A hk H F
  clear hk
  refine zd ?_; intro A F
  refine wpList_nil (hK45 _ _ ?_)
  refine gx_ret ?_
  refine (show bodyPost _ Tryz.f45 RR Exit.ret _ _ from zr ?_)
  exact ⟨congrArg (fun b => Ending.returned (.bool b)) (by rw [rightD_eq]; simp only [hb7, hb13, hb18, cond_true, cond_false]; (try simp only [← Bool.not_eq_true, Bool.or_eq_true, Bool.and_eq_true, decide_eq_true_eq] at hb23 hb27 hb31 hb36 hb40 hb44); unfold kindD; simp only [hb23, hb27, hb31, hb36, hb40, hb44, ↓reduceIte, or_true, true_or, or_self, Int.reduceEq, or_false, false_or] <;> (first | done | rfl | (simp; done) | (simp_all; done))), H.k⟩
 refine wp_seq_k (fun K47 hK47 => gx_region ?_)
 refine zb (rn_eql) ?_; intro A F
 refine zd ?_; intro A F
 refine wpList_nil (hK47 _ _ ?_)
 refine zc (fun hb48 => ?_) (fun hb48 => ?_)
 ·skip
  replace F := (((((F.nil.cons (F.g 114 _ rfl)).cons (F.g 87 _ rfl)).cons (F.g 4 _ rfl)).cons (F.g 3 _ rfl)).cons (F.g 0 _ rfl))
  refine wp_skip (hK34 _ _ ?_)
  refine wp_cond_true ((F.e rfl).trans (congrArg Value.bool hb48)) ?_
  refine wp_seq_k (fun K49 hK49 => gx_region ?_)
  iterate 5 (refine zd ?_; intro A F)
  refine hz_callk F H rfl (ex_call rfl rfl (gx_l1 (F.e rfl) (gx_l1 (F.e rfl) (gx_l1 (F.e rfl) gx_l0))) fn_105) (rknown_any v p.kind p.code _ hF.code) ?_; clear F H A; intro W A hk H F
  clear hk
  refine zd ?_; intro A F
  refine wpList_nil (hK49 _ _ ?_)
  refine gx_ret ?_
  refine (show bodyPost _ Tryz.f45 RR Exit.ret _ _ from zr ?_)
  exact ⟨congrArg (fun b => Ending.returned (.bool b)) (by rw [rightD_eq]; simp only [hb7, hb13, hb18, cond_true, cond_false]; (try simp only [← Bool.not_eq_true, Bool.or_eq_true, Bool.and_eq_true, decide_eq_true_eq] at hb23 hb27 hb31 hb36 hb40 hb44 hb48); unfold kindD; simp only [hb23, hb27, hb31, hb36, hb40, hb44, hb48, ↓reduceIte, or_true, true_or, or_self, Int.reduceEq, or_false, false_or] <;> (first | done | rfl | (simp; done) | (simp_all; done))), H.k⟩
 replace F := (((((F.nil.cons (F.g 114 _ rfl)).cons (F.g 87 _ rfl)).cons (F.g 4 _ rfl)).cons (F.g 3 _ rfl)).cons (F.g 0 _ rfl))
 refine gx_region ?_
 refine zb (rn_eql) ?_; intro A F
 refine zd ?_; intro A F
 refine wpList_nil (hK34 _ _ ?_)
 refine zc (fun hb51 => ?_) (fun hb51 => ?_)
 ·skip
  refine wp_seq_k (fun K52 hK52 => gx_region ?_)
  iterate 5 (refine zd ?_; intro A F)
  refine hz_callk F H rfl (ex_call rfl rfl (gx_l1 (F.e rfl) (gx_l1 (F.e rfl) (gx_l1 (F.e rfl) gx_l0))) fn_105) (rknown_any v p.kind p.code _ hF.code) ?_; clear F H A; intro W A hk H F
  clear hk
  refine zd ?_; intro A F
  refine wpList_nil (hK52 _ _ ?_)
  refine gx_ret ?_
  refine (show bodyPost _ Tryz.f45 RR Exit.ret _ _ from zr ?_)
  exact ⟨congrArg (fun b => Ending.returned (.bool b)) (by rw [rightD_eq]; simp only [hb7, hb13, hb18, cond_true, cond_false]; (try simp only [← Bool.not_eq_true, Bool.or_eq_true, Bool.and_eq_true, decide_eq_true_eq] at hb23 hb27 hb31 hb36 hb40 hb44 hb48 hb51); unfold kindD; simp only [hb23, hb27, hb31, hb36, hb40, hb44, hb48, hb51, ↓reduceIte, or_true, true_or, or_self, Int.reduceEq, or_false, false_or] <;> (first | done | rfl | (simp; done) | (simp_all; done))), H.k⟩
 refine wp_seq_k (fun K54 hK54 => gx_region ?_)
 refine zb (rn_eql) ?_; intro A F
 refine zd ?_; intro A F
 refine wpList_nil (hK54 _ _ ?_)
 refine zc (fun hb55 => ?_) (fun hb55 => ?_)
 ·skip
  refine wp_seq_k (fun K56 hK56 => gx_region ?_)
  iterate 2 (refine zd ?_; intro A F)
  refine hz_call (R := fun vv ww => ∃ x9 : Pr, vv = .tuple #[.agg #[.int .u8 x9.id, .int .u32 x9.n, .string x9.a, .string x9.b], .bool (getL p.props 21).isSome]) F H rfl (ex_call rfl rfl (gx_l1 (F.e rfl) (gx_l1 gx_evc gx_l0)) fn_56) ((rget_any s.pa s.pc p.props 21 _ (hp.kept H.k).hp hF.few.hp).mono fun e9 ww h9 => ⟨_, h9.1, ⟨_, rfl⟩, h9.2⟩) ?_; clear F H A; intro vv W A hR hk H F; obtain ⟨x57, rfl⟩ := hR
  clear hk
  iterate 3 (refine zd ?_; intro A F)
  refine hz_new (c := #[(.int .u8 0), (.int .u32 0), (.string ⟨#[]⟩), (.string ⟨#[]⟩)]) (t := 86) F H rfl (ex_alloc rfl (al_86 _)) ?_; clear F A; intro b58 W A hk hN H9 F; clear H; have H := H9; clear H9
  clear hk hN
  obtain ⟨W9, hr, hB, hk⟩ := gx_storeAgg (P := Tryz.prog) (S := 86) (c := #[(.int .u8 ((x57.id : Int))), (.int .u32 ((x57.n : Int))), (.string x57.a), (.string x57.b)]) _ (H.b.at_ (j := 0) rfl).1 (gs_86 _) rfl (by simp [Value.oneCell'])
  refine hz_st (ex_store rfl (F.e rfl) (F.e rfl) hr) ?_; clear hr; replace H : Hp _ _ [_, _] := Hp.turn [] H hk hB; clear hk hB
  refine zd ?_; intro A F
  refine wpList_nil (hK56 _ _ ?_)
  refine wp_seq_k (fun K59 hK59 => gx_region ?_)
  iterate 3 (refine zd ?_; intro A F)
  refine hz_callk F H rfl (ex_call rfl rfl (gx_l1 (F.e rfl) (gx_l1 gx_evc (gx_l1 (F.e rfl) gx_l0))) fn_105) (rknown_any v 15 p.code _ hF.code) ?_; clear F H A; intro W A hk H F
  clear hk
  refine zd ?_; intro A F
  refine zg ?_; intro A F
  refine hz_do F rfl (ex_pickA rfl (F.e rfl) (fun hx => (F.o rfl hx)) rfl) ?_; intro A F
  refine zd ?_; intro A F
  refine wpList_nil (hK59 _ _ ?_)
  refine gx_ret ?_
  refine (show bodyPost _ Tryz.f45 RR Exit.ret _ _ from zr ?_)
  exact ⟨congrArg (fun b => Ending.returned (.bool b)) (by rw [rightD_eq]; simp only [hb7, hb13, hb18, cond_true, cond_false]; (try simp only [← Bool.not_eq_true, Bool.or_eq_true, Bool.and_eq_true, decide_eq_true_eq] at hb23 hb27 hb31 hb36 hb40 hb44 hb48 hb51 hb55); unfold kindD; simp only [hb23, hb27, hb31, hb36, hb40, hb44, hb48, hb51, hb55, ↓reduceIte, or_true, true_or, or_self, Int.reduceEq, or_false, false_or] <;> (first | done | rfl | (simp; done) | (simp_all; done))), H.k⟩
 refine wp_skip (hK20 _ _ ?_)
 refine wp_seq_k (fun K61 hK61 => gx_region ?_)
 refine zd ?_; intro A F
 refine wpList_nil (hK61 _ _ ?_)
 refine gx_ret ?_
 refine (show bodyPost _ Tryz.f45 RR Exit.ret _ _ from zr ?_)
 exact ⟨congrArg (fun b => Ending.returned (.bool b)) (by rw [rightD_eq]; simp only [hb7, hb13, hb18, cond_true, cond_false]; (try simp only [← Bool.not_eq_true, Bool.or_eq_true, Bool.and_eq_true, decide_eq_true_eq] at hb23 hb27 hb31 hb36 hb40 hb44 hb48 hb51 hb55); unfold kindD; simp only [hb23, hb27, hb31, hb36, hb40, hb44, hb48, hb51, hb55, ↓reduceIte, or_true, true_or, or_self, Int.reduceEq, or_false, false_or] <;> (first | done | rfl | (simp; done) | (simp_all; done))), H.k⟩
def ts : Sl := ⟨none, 0, none, 0, none, 0, none, 0⟩
theorem szP_small {x : Pr} (h : x.a.size ≤ 300 ∧ x.b.size ≤ 300) : x.size ≤ 609 := by
 unfold Pr.size szP
 have := varL_le x.n
 repeat' split
 all_goals omega
theorem lenGo_small : ∀ (L : List Pr) (m n : Nat), lenGo L m = some n → (∀ x ∈ L, x.a.size ≤ 300 ∧ x.b.size ≤ 300) → n ≤ m + L.length * 609 := by
 intro L
 induction L with
 | nil => intro m n h _; simp [lenGo] at h; simp; omega
 | cons p L ih =>
  intro m n h hx
  simp only [lenGo] at h
  have h1 := szP_small (hx p (List.mem_cons_self ..))
  simp only [List.length_cons]
  split at h
  ·split at h
   ·have := ih _ _ h (fun x hx' => hx x (List.mem_cons_of_mem _ hx')); omega
   ·cases h
  ·cases h
theorem secN_small {v : Int} {L : List Pr} (h : ∀ x ∈ L, x.a.size ≤ 300 ∧ x.b.size ≤ 300) (hl : L.length ≤ 30) : secN v L ≤ 18280 := by
 unfold secN sizeR
 split
 ·omega
 ·split
  ·rename_i n hn
   have h1 := lenGo_small L 0 n hn h
   have h4 := varL_le n
   omega
  ·omega
theorem filtersN_small (k : Int) : ∀ (L : List Fi), (∀ f ∈ L, f.text.size ≤ 300) → filtersN k L ≤ L.length * 303
 | [], _ => by simp [filtersN]
 | f :: L, h => by
  have h1 := filtersN_small k L (fun g hg => h g (List.mem_cons_of_mem _ hg))
  have h2 := h f (List.mem_cons_self ..)
  simp only [filtersN, List.length_cons]
  split <;> omega
theorem restN_small {v : Int} {p : Pk} (h : Small p) : restN v p ≤ 268435455 := by
 have h1 := secN_small (v := v) h.tp h.np
 have h2 := secN_small (v := v) h.tw h.nw
 have h3 := filtersN_small p.kind p.filters h.tf
 have h4 := h.nf; have h5 := h.sum
 have h6 : shortN v p ≤ 18281 := by unfold shortN; (repeat' split) <;> omega
 have h7 : connectN v p ≤ 100000 := by unfold connectN; (repeat' split) <;> omega
 unfold restN
 repeat' split
 all_goals omega
theorem Small.few {p : Pk} (h : Small p) : p.few := ⟨by have := h.nw; omega, by have := h.nf; omega, by have := h.sum; omega, by have := h.np; omega⟩
end Go.Proofs.YtomppebamfpimaaGreatDoor
