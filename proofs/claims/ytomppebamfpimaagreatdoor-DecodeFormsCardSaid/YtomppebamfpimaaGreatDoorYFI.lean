import Derived.Test.YtomppebamfpimaaGreatDoorYFH
import Derived.Test.YtomppebamfpimaaGreatDoorYFB
import Derived.Test.YtomppebamfpimaaGreatDoorYFV
namespace Go.Proofs.YtomppebamfpimaaGreatDoor
open Go.RowKit
set_option linter.unusedVariables false
set_option linter.unusedSimpArgs false
set_option maxRecDepth 100000
theorem lenGo_leZ : ∀ (L : List Pr) (m n : Nat), lenGo L m = some n → m ≤ 268435455 → n ≤ 268435455 := by
 intro L
 induction L with
 | nil => intro m n h hm; simp [lenGo] at h; omega
 | cons p L ih =>
  intro m n h hm
  simp only [lenGo] at h
  split at h
  ·split at h
   ·exact ih _ _ h (by omega)
   ·cases h
  ·cases h
theorem secN_leZ (v : Int) (L : List Pr) : secN v L ≤ 268435459 := by
 unfold secN sizeR
 split
 ·omega
 ·split
  ·rename_i n h
   have := lenGo_leZ L 0 n h (by omega)
   have h4 := varL_le n
   omega
  ·omega
theorem Pr.few_txt {L : List Fi} {v k : Int} (h : (L.all fun f => filterB f.text && optB v k f) = true) : ∀ f ∈ L, filterB f.text = true := by
 intro f hf
 have := List.all_eq_true.1 h f hf
 simp only [Bool.and_eq_true] at this
 exact this.1
theorem fieldsRight_any (v : Int) (p : Pk) (s : Sl) (w : World) (hp : p.At s w) (hF : Fit p) (hT : Tabs w) :
  Calls Tryz.prog 111 #[.int .i64 v, p.val s] w fun e w' => e = .returned (.bool (fieldsB v p)) ∧ Kept No w w' := by
 let RR : Ending → World → Prop := fun e w' => e = .returned (.bool (fieldsB v p)) ∧ Kept No w w'
 go_enter Tryz.func111, Tryz.ntmps111
 generalize hA : ({ tmps := _, defers := [] } : Act) = A
 have F : Fr A 88 [(1, (Pk.val p s)), (0, (.int .i64 v))] := by rw [← hA]; exact (Fr.cons (i := 1) (v := (Pk.val p s)) (Fr.cons (i := 0) (v := (.int .i64 v)) (Fr.nil0 rfl rfl) rfl) rfl)
 clear hA; have H := Hp.start w
 refine wp_seq_k (fun K1 hK1 => gx_region ?_)
 refine hz_new (c := (Pk.cells p s)) (t := 33) F H rfl (ex_box rfl (F.e rfl) (gx_box _ _)) ?_; clear F A; intro b2 W A hk hN H9 F; clear H; have H := H9; clear H9
 clear hk hN
 refine zd ?_; intro A F
 refine wpList_nil (hK1 _ _ ?_)
 refine wp_seq_k (fun K3 hK3 => ?_)
 refine wp_seq_k (fun K4 hK4 => gx_region ?_)
 iterate 2 (refine zd ?_; intro A F)
 refine wpList_nil (hK4 _ _ ?_)
 refine wp_block ?_
 refine wp_seq_k (fun K5 hK5 => gx_region ?_)
 refine zb (rn_eql) ?_; intro A F
 refine zd ?_; intro A F
 refine wpList_nil (hK5 _ _ ?_)
 refine zc (fun hb6 => ?_) (fun hb6 => ?_)
 ·skip
  refine wp_seq_k (fun K7 hK7 => gx_region ?_)
  refine zd ?_; intro A F
  refine hz_do F rfl (ex_load rfl (F.e rfl) (gl_agg ((Pk.cells p s)) rfl (ga_33 _) (gs_33 _) (fun i => H.cs 0 rfl i))) ?_; intro A F
  refine hz_callk F H rfl (ex_call rfl rfl (gx_l1 (F.e rfl) (gx_l1 (F.e rfl) gx_l0)) fn_148) (connectRight_any v p s _ (hp.kept H.k) hF (hT.kept H.k)) ?_; clear F H A; intro W A hk H F
  clear hk
  refine zd ?_; intro A F
  refine wpList_nil (hK7 _ _ ?_)
  refine gx_ret ?_
  refine (show bodyPost _ Tryz.f111 RR Exit.ret _ _ from zr ?_)
  exact rb (by (try simp only [← Bool.not_eq_true, Bool.or_eq_true, Bool.and_eq_true, decide_eq_true_eq] at hb6); unfold fieldsB; simp only [hb6, ↓reduceIte] <;> exact fin)
 refine wp_seq_k (fun K9 hK9 => gx_region ?_)
 refine zb (rn_eql) ?_; intro A F
 refine zd ?_; intro A F
 refine wpList_nil (hK9 _ _ ?_)
 refine zc (fun hb10 => ?_) (fun hb10 => ?_)
 ·skip
  refine wp_seq_k (fun K11 hK11 => gx_region ?_)
  refine zd ?_; intro A F
  refine hz_do F rfl (ex_load rfl (F.e rfl) (gl_agg ((Pk.cells p s)) rfl (ga_33 _) (gs_33 _) (fun i => H.cs 0 rfl i))) ?_; intro A F
  refine hz_callk F H rfl (ex_call rfl rfl (gx_l1 (F.e rfl) (gx_l1 (F.e rfl) gx_l0)) fn_149) (codeKnown_any v p s _ (hp.kept H.k) hF (hT.kept H.k)) ?_; clear F H A; intro W A hk H F
  clear hk
  refine zd ?_; intro A F
  iterate 2 (refine zg ?_; intro A F)
  refine hz_g F rfl (hw_t F rfl rfl rfl) (fun hG => (ex_bin rfl (F.o rfl hG) gx_evc (rn_eqlN (i := p.code) (j := 0)))) ?_; intro A F
  iterate 5 (refine zg ?_; intro A F)
  refine hz_do F rfl (ex_pickA rfl (F.e rfl) (fun hx => (F.o rfl hx)) rfl) ?_; intro A F
  refine zd ?_; intro A F
  refine wpList_nil (hK11 _ _ ?_)
  refine gx_ret ?_
  refine (show bodyPost _ Tryz.f111 RR Exit.ret _ _ from zr ?_)
  exact rb (by (try simp only [← Bool.not_eq_true, Bool.or_eq_true, Bool.and_eq_true, decide_eq_true_eq] at hb6 hb10); unfold fieldsB; simp only [hb6, hb10, ↓reduceIte] <;> exact fin)
 refine wp_seq_k (fun K13 hK13 => gx_region ?_)
 refine zb (rn_eql) ?_; intro A F
 refine zd ?_; intro A F
 refine wpList_nil (hK13 _ _ ?_)
 refine zc (fun hb14 => ?_) (fun hb14 => ?_)
 ·skip
  refine wp_seq_k (fun K15 hK15 => gx_region ?_)
  refine zd ?_; intro A F
  refine hz_do F rfl (ex_load rfl (F.e rfl) (gl_agg ((Pk.cells p s)) rfl (ga_33 _) (gs_33 _) (fun i => H.cs 0 rfl i))) ?_; intro A F
  refine hz_callk F H rfl (ex_call rfl rfl (gx_l1 (F.e rfl) (gx_l1 (F.e rfl) gx_l0)) fn_150) (publishRight_any v p s _ (hp.kept H.k) hF.few (by have := hF.r.topic; omega) (hT.kept H.k)) ?_; clear F H A; intro W A hk H F
  clear hk
  refine zd ?_; intro A F
  refine wpList_nil (hK15 _ _ ?_)
  refine gx_ret ?_
  refine (show bodyPost _ Tryz.f111 RR Exit.ret _ _ from zr ?_)
  exact rb (by (try simp only [← Bool.not_eq_true, Bool.or_eq_true, Bool.and_eq_true, decide_eq_true_eq] at hb6 hb10 hb14); unfold fieldsB; simp only [hb6, hb10, hb14, ↓reduceIte] <;> exact fin)
 refine wp_seq_k (fun K17 hK17 => ?_)
 refine wp_seq_k (fun K18 hK18 => gx_region ?_)
 refine zb (rn_eql) ?_; intro A F
 refine zd ?_; intro A F
 refine wpList_nil (hK18 _ _ ?_)
 refine zc (fun hb19 => ?_) (fun hb19 => ?_)
 ·skip
  refine wp_skip (hK17 _ _ ?_)
  refine wp_cond_true ((F.e rfl).trans (congrArg Value.bool hb19)) ?_
  refine wp_seq_k (fun K20 hK20 => gx_region ?_)
  iterate 2 (refine zd ?_; intro A F)
  refine zb (rn_neqN (i := p.id) (j := 0)) ?_; intro A F
  refine zd ?_; intro A F
  refine zg ?_; intro A F
  refine hz_g F rfl (hw_t F rfl rfl rfl) (fun hG => (ex_load rfl (F.e rfl) (gl_agg ((Pk.cells p s)) rfl (ga_33 _) (gs_33 _) (fun i => H.cs 0 rfl i)))) ?_; intro A F
  refine hz_callg F H rfl (hw_t F rfl rfl rfl) (fun hG => (ex_call rfl rfl (gx_l1 (F.o rfl hG) (gx_l1 (F.o rfl hG) gx_l0)) fn_149)) (fun hG => codeKnown_any v p s _ (hp.kept H.k) hF (hT.kept H.k)) ?_; clear F H A; intro W A hk H F
  clear hk
  refine hz_do F rfl (ex_pickA rfl (F.e rfl) (fun hx => (F.o rfl hx)) rfl) ?_; intro A F
  refine zd ?_; intro A F
  refine wpList_nil (hK20 _ _ ?_)
  refine gx_ret ?_
  refine (show bodyPost _ Tryz.f111 RR Exit.ret _ _ from zr ?_)
  exact rb (by (try simp only [← Bool.not_eq_true, Bool.or_eq_true, Bool.and_eq_true, decide_eq_true_eq] at hb6 hb10 hb14 hb19); unfold fieldsB; simp only [hb6, hb10, hb14, hb19, ↓reduceIte] <;> exact fin)
 refine wp_seq_k (fun K22 hK22 => gx_region ?_)
 refine zb (rn_eql) ?_; intro A F
 refine zd ?_; intro A F
 refine wpList_nil (hK22 _ _ ?_)
 refine zc (fun hb23 => ?_) (fun hb23 => ?_)
 ·skip
  refine wp_skip (hK17 _ _ ?_)
  refine wp_cond_true ((F.e rfl).trans (congrArg Value.bool hb23)) ?_
  refine wp_seq_k (fun K24 hK24 => gx_region ?_)
  iterate 2 (refine zd ?_; intro A F)
  refine zb (rn_neqN (i := p.id) (j := 0)) ?_; intro A F
  refine zd ?_; intro A F
  refine zg ?_; intro A F
  refine hz_g F rfl (hw_t F rfl rfl rfl) (fun hG => (ex_load rfl (F.e rfl) (gl_agg ((Pk.cells p s)) rfl (ga_33 _) (gs_33 _) (fun i => H.cs 0 rfl i)))) ?_; intro A F
  refine hz_callg F H rfl (hw_t F rfl rfl rfl) (fun hG => (ex_call rfl rfl (gx_l1 (F.o rfl hG) (gx_l1 (F.o rfl hG) gx_l0)) fn_149)) (fun hG => codeKnown_any v p s _ (hp.kept H.k) hF (hT.kept H.k)) ?_; clear F H A; intro W A hk H F
  clear hk
  refine hz_do F rfl (ex_pickA rfl (F.e rfl) (fun hx => (F.o rfl hx)) rfl) ?_; intro A F
  refine zd ?_; intro A F
  refine wpList_nil (hK24 _ _ ?_)
  refine gx_ret ?_
  refine (show bodyPost _ Tryz.f111 RR Exit.ret _ _ from zr ?_)
  exact rb (by (try simp only [← Bool.not_eq_true, Bool.or_eq_true, Bool.and_eq_true, decide_eq_true_eq] at hb6 hb10 hb14 hb19 hb23); unfold fieldsB; simp only [hb6, hb10, hb14, hb19, hb23, ↓reduceIte] <;> exact fin)
 refine wp_seq_k (fun K26 hK26 => gx_region ?_)
 refine zb (rn_eql) ?_; intro A F
 refine zd ?_; intro A F
 refine wpList_nil (hK26 _ _ ?_)
 refine zc (fun hb27 => ?_) (fun hb27 => ?_)
 ·skip
  refine wp_skip (hK17 _ _ ?_)
  refine wp_cond_true ((F.e rfl).trans (congrArg Value.bool hb27)) ?_
  replace F := ((((F.nil.cons (F.g 8 _ rfl)).cons (F.g 4 _ rfl)).cons (F.g 3 _ rfl)).cons (F.g 0 _ rfl))
  refine wp_seq_k (fun K28 hK28 => gx_region ?_)
  iterate 2 (refine zd ?_; intro A F)
  refine zb (rn_neqN (i := p.id) (j := 0)) ?_; intro A F
  refine zd ?_; intro A F
  refine zg ?_; intro A F
  refine hz_g F rfl (hw_t F rfl rfl rfl) (fun hG => (ex_load rfl (F.e rfl) (gl_agg ((Pk.cells p s)) rfl (ga_33 _) (gs_33 _) (fun i => H.cs 0 rfl i)))) ?_; intro A F
  refine hz_callg F H rfl (hw_t F rfl rfl rfl) (fun hG => (ex_call rfl rfl (gx_l1 (F.o rfl hG) (gx_l1 (F.o rfl hG) gx_l0)) fn_149)) (fun hG => codeKnown_any v p s _ (hp.kept H.k) hF (hT.kept H.k)) ?_; clear F H A; intro W A hk H F
  clear hk
  refine hz_do F rfl (ex_pickA rfl (F.e rfl) (fun hx => (F.o rfl hx)) rfl) ?_; intro A F
  refine zd ?_; intro A F
  refine wpList_nil (hK28 _ _ ?_)
  refine gx_ret ?_
  refine (show bodyPost _ Tryz.f111 RR Exit.ret _ _ from zr ?_)
  exact rb (by (try simp only [← Bool.not_eq_true, Bool.or_eq_true, Bool.and_eq_true, decide_eq_true_eq] at hb6 hb10 hb14 hb19 hb23 hb27); unfold fieldsB; simp only [hb6, hb10, hb14, hb19, hb23, hb27, ↓reduceIte] <;> exact fin)
 refine gx_region ?_
 refine zb (rn_eql) ?_; intro A F
 refine zd ?_; intro A F
 refine wpList_nil (hK17 _ _ ?_)
 refine zc (fun hb30 => ?_) (fun hb30 => ?_)
 ·skip
  replace F := ((((F.nil.cons (F.g 8 _ rfl)).cons (F.g 4 _ rfl)).cons (F.g 3 _ rfl)).cons (F.g 0 _ rfl))
  refine wp_seq_k (fun K31 hK31 => gx_region ?_)
  iterate 2 (refine zd ?_; intro A F)
  refine zb (rn_neqN (i := p.id) (j := 0)) ?_; intro A F
  refine zd ?_; intro A F
  refine zg ?_; intro A F
  refine hz_g F rfl (hw_t F rfl rfl rfl) (fun hG => (ex_load rfl (F.e rfl) (gl_agg ((Pk.cells p s)) rfl (ga_33 _) (gs_33 _) (fun i => H.cs 0 rfl i)))) ?_; intro A F
  refine hz_callg F H rfl (hw_t F rfl rfl rfl) (fun hG => (ex_call rfl rfl (gx_l1 (F.o rfl hG) (gx_l1 (F.o rfl hG) gx_l0)) fn_149)) (fun hG => codeKnown_any v p s _ (hp.kept H.k) hF (hT.kept H.k)) ?_; clear F H A; intro W A hk H F
  clear hk
  refine hz_do F rfl (ex_pickA rfl (F.e rfl) (fun hx => (F.o rfl hx)) rfl) ?_; intro A F
  refine zd ?_; intro A F
  refine wpList_nil (hK31 _ _ ?_)
  refine gx_ret ?_
  refine (show bodyPost _ Tryz.f111 RR Exit.ret _ _ from zr ?_)
  exact rb (by (try simp only [← Bool.not_eq_true, Bool.or_eq_true, Bool.and_eq_true, decide_eq_true_eq] at hb6 hb10 hb14 hb19 hb23 hb27 hb30); unfold fieldsB; simp only [hb6, hb10, hb14, hb19, hb23, hb27, hb30, ↓reduceIte] <;> exact fin)
 replace F := ((((F.nil.cons (F.g 8 _ rfl)).cons (F.g 4 _ rfl)).cons (F.g 3 _ rfl)).cons (F.g 0 _ rfl))
 refine wp_seq_k (fun K33 hK33 => ?_)
 refine wp_seq_k (fun K34 hK34 => gx_region ?_)
 refine zb (rn_eql) ?_; intro A F
 refine zd ?_; intro A F
 refine wpList_nil (hK34 _ _ ?_)
 refine zc (fun hb35 => ?_) (fun hb35 => ?_)
 ·skip
  refine wp_skip (hK33 _ _ ?_)
  refine wp_cond_true ((F.e rfl).trans (congrArg Value.bool hb35)) ?_
  refine wp_seq_k (fun K36 hK36 => gx_region ?_)
  iterate 2 (refine zd ?_; intro A F)
  refine zb (rn_neqN (i := p.id) (j := 0)) ?_; intro A F
  refine zd ?_; intro A F
  refine zg ?_; intro A F
  refine hz_g F rfl (hw_t F rfl rfl rfl) (fun hG => (ex_load rfl (F.e rfl) (gl_agg ((Pk.cells p s)) rfl (ga_33 _) (gs_33 _) (fun i => H.cs 0 rfl i)))) ?_; intro A F
  refine hz_callg F H rfl (hw_t F rfl rfl rfl) (fun hG => (ex_call rfl rfl (gx_l1 (F.o rfl hG) (gx_l1 (F.o rfl hG) gx_l0)) fn_151)) (fun hG => filtersRight_any v p s _ (hp.kept H.k) hF (hT.kept H.k)) ?_; clear F H A; intro W A hk H F
  clear hk
  refine hz_do F rfl (ex_pickA rfl (F.e rfl) (fun hx => (F.o rfl hx)) rfl) ?_; intro A F
  refine zd ?_; intro A F
  refine wpList_nil (hK36 _ _ ?_)
  refine gx_ret ?_
  refine (show bodyPost _ Tryz.f111 RR Exit.ret _ _ from zr ?_)
  exact rb (by (try simp only [← Bool.not_eq_true, Bool.or_eq_true, Bool.and_eq_true, decide_eq_true_eq] at hb6 hb10 hb14 hb19 hb23 hb27 hb30 hb35); unfold fieldsB; simp only [hb6, hb10, hb14, hb19, hb23, hb27, hb30, hb35, ↓reduceIte] <;> exact fin)
 refine gx_region ?_
 refine zb (rn_eql) ?_; intro A F
 refine zd ?_; intro A F
 refine wpList_nil (hK33 _ _ ?_)
 refine zc (fun hb38 => ?_) (fun hb38 => ?_)
 ·skip
  refine wp_seq_k (fun K39 hK39 => gx_region ?_)
  iterate 2 (refine zd ?_; intro A F)
  refine zb (rn_neqN (i := p.id) (j := 0)) ?_; intro A F
  refine zd ?_; intro A F
  refine zg ?_; intro A F
  refine hz_g F rfl (hw_t F rfl rfl rfl) (fun hG => (ex_load rfl (F.e rfl) (gl_agg ((Pk.cells p s)) rfl (ga_33 _) (gs_33 _) (fun i => H.cs 0 rfl i)))) ?_; intro A F
  refine hz_callg F H rfl (hw_t F rfl rfl rfl) (fun hG => (ex_call rfl rfl (gx_l1 (F.o rfl hG) (gx_l1 (F.o rfl hG) gx_l0)) fn_151)) (fun hG => filtersRight_any v p s _ (hp.kept H.k) hF (hT.kept H.k)) ?_; clear F H A; intro W A hk H F
  clear hk
  refine hz_do F rfl (ex_pickA rfl (F.e rfl) (fun hx => (F.o rfl hx)) rfl) ?_; intro A F
  refine zd ?_; intro A F
  refine wpList_nil (hK39 _ _ ?_)
  refine gx_ret ?_
  refine (show bodyPost _ Tryz.f111 RR Exit.ret _ _ from zr ?_)
  exact rb (by (try simp only [← Bool.not_eq_true, Bool.or_eq_true, Bool.and_eq_true, decide_eq_true_eq] at hb6 hb10 hb14 hb19 hb23 hb27 hb30 hb35 hb38); unfold fieldsB; simp only [hb6, hb10, hb14, hb19, hb23, hb27, hb30, hb35, hb38, ↓reduceIte] <;> exact fin)
 refine wp_seq_k (fun K41 hK41 => ?_)
 refine wp_seq_k (fun K42 hK42 => gx_region ?_)
 refine zb (rn_eql) ?_; intro A F
 refine zd ?_; intro A F
 refine wpList_nil (hK42 _ _ ?_)
 refine zc (fun hb43 => ?_) (fun hb43 => ?_)
 ·skip
  refine wp_skip (hK41 _ _ ?_)
  refine wp_cond_true ((F.e rfl).trans (congrArg Value.bool hb43)) ?_
  refine wp_seq_k (fun K44 hK44 => gx_region ?_)
  iterate 2 (refine zd ?_; intro A F)
  refine zb (rn_neqN (i := p.id) (j := 0)) ?_; intro A F
  refine zd ?_; intro A F
  refine zg ?_; intro A F
  refine hz_g F rfl (hw_t F rfl rfl rfl) (fun hG => (ex_load rfl (F.e rfl) (gl_agg ((Pk.cells p s)) rfl (ga_33 _) (gs_33 _) (fun i => H.cs 0 rfl i)))) ?_; intro A F
  refine hz_callg F H rfl (hw_t F rfl rfl rfl) (fun hG => (ex_call rfl rfl (gx_l1 (F.o rfl hG) (gx_l1 (F.o rfl hG) gx_l0)) fn_152)) (fun hG => codesRight_any v p s _ (hp.kept H.k) hF (hT.kept H.k)) ?_; clear F H A; intro W A hk H F
  clear hk
  refine hz_do F rfl (ex_pickA rfl (F.e rfl) (fun hx => (F.o rfl hx)) rfl) ?_; intro A F
  refine zd ?_; intro A F
  refine wpList_nil (hK44 _ _ ?_)
  refine gx_ret ?_
  refine (show bodyPost _ Tryz.f111 RR Exit.ret _ _ from zr ?_)
  exact rb (by (try simp only [← Bool.not_eq_true, Bool.or_eq_true, Bool.and_eq_true, decide_eq_true_eq] at hb6 hb10 hb14 hb19 hb23 hb27 hb30 hb35 hb38 hb43); unfold fieldsB; simp only [hb6, hb10, hb14, hb19, hb23, hb27, hb30, hb35, hb38, hb43, ↓reduceIte] <;> exact fin)
 refine gx_region ?_
 refine zb (rn_eql) ?_; intro A F
 refine zd ?_; intro A F
 refine wpList_nil (hK41 _ _ ?_)
 refine zc (fun hb46 => ?_) (fun hb46 => ?_)
 ·skip
  refine wp_seq_k (fun K47 hK47 => gx_region ?_)
  iterate 2 (refine zd ?_; intro A F)
  refine zb (rn_neqN (i := p.id) (j := 0)) ?_; intro A F
  refine zd ?_; intro A F
  refine zg ?_; intro A F
  refine hz_g F rfl (hw_t F rfl rfl rfl) (fun hG => (ex_load rfl (F.e rfl) (gl_agg ((Pk.cells p s)) rfl (ga_33 _) (gs_33 _) (fun i => H.cs 0 rfl i)))) ?_; intro A F
  refine hz_callg F H rfl (hw_t F rfl rfl rfl) (fun hG => (ex_call rfl rfl (gx_l1 (F.o rfl hG) (gx_l1 (F.o rfl hG) gx_l0)) fn_152)) (fun hG => codesRight_any v p s _ (hp.kept H.k) hF (hT.kept H.k)) ?_; clear F H A; intro W A hk H F
  clear hk
  refine hz_do F rfl (ex_pickA rfl (F.e rfl) (fun hx => (F.o rfl hx)) rfl) ?_; intro A F
  refine zd ?_; intro A F
  refine wpList_nil (hK47 _ _ ?_)
  refine gx_ret ?_
  refine (show bodyPost _ Tryz.f111 RR Exit.ret _ _ from zr ?_)
  exact rb (by (try simp only [← Bool.not_eq_true, Bool.or_eq_true, Bool.and_eq_true, decide_eq_true_eq] at hb6 hb10 hb14 hb19 hb23 hb27 hb30 hb35 hb38 hb43 hb46); unfold fieldsB; simp only [hb6, hb10, hb14, hb19, hb23, hb27, hb30, hb35, hb38, hb43, hb46, ↓reduceIte] <;> exact fin)
 refine wp_seq_k (fun K49 hK49 => gx_region ?_)
 refine zb (rn_eql) ?_; intro A F
 refine zd ?_; intro A F
 refine wpList_nil (hK49 _ _ ?_)
 refine zc (fun hb50 => ?_) (fun hb50 => ?_)
 ·skip
  refine wp_seq_k (fun K51 hK51 => gx_region ?_)
  refine zd ?_; intro A F
  refine hz_do F rfl (ex_load rfl (F.e rfl) (gl_agg ((Pk.cells p s)) rfl (ga_33 _) (gs_33 _) (fun i => H.cs 0 rfl i))) ?_; intro A F
  refine hz_callk F H rfl (ex_call rfl rfl (gx_l1 (F.e rfl) (gx_l1 (F.e rfl) gx_l0)) fn_149) (codeKnown_any v p s _ (hp.kept H.k) hF (hT.kept H.k)) ?_; clear F H A; intro W A hk H F
  clear hk
  refine zd ?_; intro A F
  refine wpList_nil (hK51 _ _ ?_)
  refine gx_ret ?_
  refine (show bodyPost _ Tryz.f111 RR Exit.ret _ _ from zr ?_)
  exact rb (by (try simp only [← Bool.not_eq_true, Bool.or_eq_true, Bool.and_eq_true, decide_eq_true_eq] at hb6 hb10 hb14 hb19 hb23 hb27 hb30 hb35 hb38 hb43 hb46 hb50); unfold fieldsB; simp only [hb6, hb10, hb14, hb19, hb23, hb27, hb30, hb35, hb38, hb43, hb46, hb50, ↓reduceIte] <;> exact fin)
 refine wp_seq_k (fun K53 hK53 => gx_region ?_)
 refine zb (rn_eql) ?_; intro A F
 refine zd ?_; intro A F
 refine wpList_nil (hK53 _ _ ?_)
 refine zc (fun hb54 => ?_) (fun hb54 => ?_)
 ·skip
  refine wp_seq_k (fun K55 hK55 => gx_region ?_)
  iterate 2 (refine zd ?_; intro A F)
  refine hz_call (R := fun vv ww => ∃ x9 : Pr, vv = .tuple #[.agg #[.int .u8 x9.id, .int .u32 x9.n, .string x9.a, .string x9.b], .bool (getL p.props 21).isSome]) F H rfl (ex_call rfl rfl (gx_l1 (F.e rfl) (gx_l1 gx_evc gx_l0)) fn_153) ((get_any s.pa s.pc p.props 21 _ (hp.kept H.k).hp hF.few.hp).mono fun e9 ww h9 => ⟨_, h9.1, ⟨_, rfl⟩, h9.2⟩) ?_; clear F H A; intro vv W A hR hk H F; obtain ⟨x56, rfl⟩ := hR
  clear hk
  iterate 3 (refine zd ?_; intro A F)
  refine hz_new (c := #[(.int .u8 0), (.int .u32 0), (.string ⟨#[]⟩), (.string ⟨#[]⟩)]) (t := 142) F H rfl (ex_alloc rfl (al_142 _)) ?_; clear F A; intro b57 W A hk hN H9 F; clear H; have H := H9; clear H9
  clear hk hN
  obtain ⟨W9, hr, hB, hk⟩ := gx_storeAgg (P := Tryz.prog) (S := 142) (c := #[(.int .u8 ((x56.id : Int))), (.int .u32 ((x56.n : Int))), (.string x56.a), (.string x56.b)]) _ (H.b.at_ (j := 0) rfl).1 (gs_142 _) rfl (by simp [Value.oneCell'])
  refine hz_st (ex_store rfl (F.e rfl) (F.e rfl) hr) ?_; clear hr; replace H : Hp _ _ [_, _] := Hp.turn [] H hk hB; clear hk hB
  refine zd ?_; intro A F
  refine wpList_nil (hK55 _ _ ?_)
  refine wp_seq_k (fun K58 hK58 => gx_region ?_)
  iterate 2 (refine zd ?_; intro A F)
  refine zg ?_; intro A F
  refine hz_g F rfl (hw_t F rfl rfl rfl) (fun hG => (ex_load rfl (F.e rfl) (gl_agg ((Pk.cells p s)) rfl (ga_33 _) (gs_33 _) (fun i => H.cs 1 rfl i)))) ?_; intro A F
  refine hz_callg F H rfl (hw_t F rfl rfl rfl) (fun hG => (ex_call rfl rfl (gx_l1 (F.o rfl hG) (gx_l1 (F.o rfl hG) gx_l0)) fn_149)) (fun hG => codeKnown_any v p s _ (hp.kept H.k) hF (hT.kept H.k)) ?_; clear F H A; intro W A hk H F
  clear hk
  refine hz_do F rfl (ex_pickA rfl (F.e rfl) (fun hx => (F.o rfl hx)) rfl) ?_; intro A F
  refine zd ?_; intro A F
  refine wpList_nil (hK58 _ _ ?_)
  refine gx_ret ?_
  refine (show bodyPost _ Tryz.f111 RR Exit.ret _ _ from zr ?_)
  exact rb (by (try simp only [← Bool.not_eq_true, Bool.or_eq_true, Bool.and_eq_true, decide_eq_true_eq] at hb6 hb10 hb14 hb19 hb23 hb27 hb30 hb35 hb38 hb43 hb46 hb50 hb54); unfold fieldsB; simp only [hb6, hb10, hb14, hb19, hb23, hb27, hb30, hb35, hb38, hb43, hb46, hb50, hb54, ↓reduceIte] <;> exact fin)
 refine wp_skip (hK3 _ _ ?_)
 refine wp_seq_k (fun K60 hK60 => gx_region ?_)
 refine zd ?_; intro A F
 refine wpList_nil (hK60 _ _ ?_)
 refine gx_ret ?_
 refine (show bodyPost _ Tryz.f111 RR Exit.ret _ _ from zr ?_)
 exact rb (by (try simp only [← Bool.not_eq_true, Bool.or_eq_true, Bool.and_eq_true, decide_eq_true_eq] at hb6 hb10 hb14 hb19 hb23 hb27 hb30 hb35 hb38 hb43 hb46 hb50 hb54); unfold fieldsB; simp only [hb6, hb10, hb14, hb19, hb23, hb27, hb30, hb35, hb38, hb43, hb46, hb50, hb54, ↓reduceIte] <;> exact fin)
theorem shortCode_any (v : Int) (p : Pk) (s : Sl) (w : World) (hp : p.At s w) (hF : Fit p) (hT : Tabs w) :
  Calls Tryz.prog 65 #[.int .i64 v, p.val s] w fun e w' => e = .returned (.int .i64 (shortN v p : Int)) ∧ Kept No w w' := by
 have b1 := hF.r.client; have b2 := hF.r.willTopic; have b3 := hF.r.willLoad; have b4 := hF.r.user; have b5 := hF.r.pass; have b6 := hF.r.topic; have b7 := hF.r.load; have b8 := hF.few.hf; have b9 := hF.few.hc; have b10 := hF.few.hp; have b11 := hF.few.hw
 have hsec : ∀ L : List Pr, secN v L ≤ 268435459 := secN_leZ v
 have hs1 := hsec p.props; have hs2 := hsec p.willProps
 let RR : Ending → World → Prop := fun e w' => e = .returned (.int .i64 (shortN v p : Int)) ∧ Kept No w w'
 go_enter Tryz.func65, Tryz.ntmps65
 generalize hA : ({ tmps := _, defers := [] } : Act) = A
 have F : Fr A 27 [(1, (Pk.val p s)), (0, (.int .i64 v))] := by rw [← hA]; exact (Fr.cons (i := 1) (v := (Pk.val p s)) (Fr.cons (i := 0) (v := (.int .i64 v)) (Fr.nil0 rfl rfl) rfl) rfl)
 clear hA; have H := Hp.start w
 refine wp_seq_k (fun K1 hK1 => gx_region ?_)
 refine hz_new (c := (Pk.cells p s)) (t := 33) F H rfl (ex_box rfl (F.e rfl) (gx_box _ _)) ?_; clear F A; intro b2 W A hk hN H9 F; clear H; have H := H9; clear H9
 clear hk hN
 refine zd ?_; intro A F
 refine wpList_nil (hK1 _ _ ?_)
 refine wp_seq_k (fun K3 hK3 => ?_)
 refine wp_block ?_
 refine wp_seq_k (fun K4 hK4 => ?_)
 refine wp_seq_k (fun K5 hK5 => gx_region ?_)
 refine zd ?_; intro A F
 refine zb (rn_eql) ?_; intro A F
 refine zd ?_; intro A F
 refine wpList_nil (hK5 _ _ ?_)
 refine zc (fun hb6 => ?_) (fun hb6 => ?_)
 ·skip
  refine wp_skip (hK4 _ _ ?_)
  refine wp_cond_true ((F.e rfl).trans (congrArg Value.bool hb6)) ?_
  refine wp_seq_k (fun K7 hK7 => gx_region ?_)
  refine zd ?_; intro A F
  refine wpList_nil (hK7 _ _ ?_)
  refine gx_ret ?_
  refine (show bodyPost _ Tryz.f65 RR Exit.ret _ _ from zr ?_)
  exact ri (by (try simp only [← Bool.not_eq_true, Bool.or_eq_true, Bool.and_eq_true, decide_eq_true_eq] at hb6); unfold shortN; simp only [hb6, ↓reduceIte] <;> exact fin)
 refine gx_region ?_
 iterate 2 (refine zd ?_; intro A F)
 refine zb (rn_eqlN (i := p.code) (j := 0)) ?_; intro A F
 refine zd ?_; intro A F
 iterate 2 (refine zg ?_; intro A F)
 refine hz_g F rfl (hw_t F rfl rfl rfl) (fun hG => (ex_len rfl (gx_l1 (F.o rfl hG) gx_l0) (rn_lens Tryz.underlying30))) ?_; intro A F
 refine hz_g F rfl (hw_t F rfl rfl rfl) (fun hG => (ex_bin rfl (F.o rfl hG) gx_evc (rn_eqlN (i := p.props.length) (j := 0)))) ?_; intro A F
 refine hz_do F rfl (ex_pickA rfl (F.e rfl) (fun hx => (F.o rfl hx)) rfl) ?_; intro A F
 refine zd ?_; intro A F
 refine wpList_nil (hK4 _ _ ?_)
 refine zc (fun hb8 => ?_) (fun hb8 => ?_)
 ·skip
  replace F := (((F.nil.cons (F.g 4 _ rfl)).cons (F.g 3 _ rfl)).cons (F.g 0 _ rfl))
  refine wp_seq_k (fun K9 hK9 => gx_region ?_)
  refine zd ?_; intro A F
  refine wpList_nil (hK9 _ _ ?_)
  refine gx_ret ?_
  refine (show bodyPost _ Tryz.f65 RR Exit.ret _ _ from zr ?_)
  exact ri (by (try simp only [← Bool.not_eq_true, Bool.or_eq_true, Bool.and_eq_true, decide_eq_true_eq] at hb6 hb8); unfold shortN; simp only [hb6, hb8, ↓reduceIte] <;> exact fin)
 replace F := (((F.nil.cons (F.g 4 _ rfl)).cons (F.g 3 _ rfl)).cons (F.g 0 _ rfl))
 refine wp_seq_k (fun K10 hK10 => gx_region ?_)
 iterate 2 (refine zd ?_; intro A F)
 refine hz_do F rfl (ex_len rfl (gx_l1 (F.e rfl) gx_l0) (rn_lens Tryz.underlying30)) ?_; intro A F
 refine zb (rn_eqlN (i := p.props.length) (j := 0)) ?_; intro A F
 refine zd ?_; intro A F
 refine wpList_nil (hK10 _ _ ?_)
 refine zc (fun hb11 => ?_) (fun hb11 => ?_)
 ·skip
  refine wp_seq_k (fun K12 hK12 => gx_region ?_)
  refine zd ?_; intro A F
  refine wpList_nil (hK12 _ _ ?_)
  refine gx_ret ?_
  refine (show bodyPost _ Tryz.f65 RR Exit.ret _ _ from zr ?_)
  exact ri (by (try simp only [← Bool.not_eq_true, Bool.or_eq_true, Bool.and_eq_true, decide_eq_true_eq] at hb6 hb8 hb11); unfold shortN; simp only [hb6, hb8, hb11, ↓reduceIte] <;> exact fin)
 refine wp_skip (hK3 _ _ ?_)
 refine wp_seq_k (fun K13 hK13 => gx_region ?_)
 iterate 3 (refine zd ?_; intro A F)
 refine hz_callk F H rfl (ex_call rfl rfl (gx_l1 (F.e rfl) (gx_l1 (F.e rfl) gx_l0)) fn_62) (section_any v s.pa s.pc p.props _ (hp.kept H.k).hp hF.few.hp hF.wf.p (hT.kept H.k)) ?_; clear F H A; intro W A hk H F
 clear hk
 refine hz_do F rfl (ex_bin rfl gx_evc (F.e rfl) (rn_add (gx_wrap_i64 (by omega) (by omega)))) ?_; intro A F
 refine zd ?_; intro A F
 refine wpList_nil (hK13 _ _ ?_)
 refine gx_ret ?_
 refine (show bodyPost _ Tryz.f65 RR Exit.ret _ _ from zr ?_)
 exact ri (by (try simp only [← Bool.not_eq_true, Bool.or_eq_true, Bool.and_eq_true, decide_eq_true_eq] at hb6 hb8 hb11); unfold shortN; simp only [hb6, hb8, hb11, ↓reduceIte] <;> exact fin)
theorem connectSize_any (v : Int) (p : Pk) (s : Sl) (w : World) (hp : p.At s w) (hF : Fit p) (hT : Tabs w) :
  Calls Tryz.prog 61 #[.int .i64 v, p.val s] w fun e w' => e = .returned (.int .i64 (connectN v p : Int)) ∧ Kept No w w' := by
 have b1 := hF.r.client; have b2 := hF.r.willTopic; have b3 := hF.r.willLoad; have b4 := hF.r.user; have b5 := hF.r.pass; have b6 := hF.r.topic; have b7 := hF.r.load; have b8 := hF.few.hf; have b9 := hF.few.hc; have b10 := hF.few.hp; have b11 := hF.few.hw
 have hsec : ∀ L : List Pr, secN v L ≤ 268435459 := secN_leZ v
 have hs1 := hsec p.props; have hs2 := hsec p.willProps
 let RR : Ending → World → Prop := fun e w' => e = .returned (.int .i64 (connectN v p : Int)) ∧ Kept No w w'
 go_enter Tryz.func61, Tryz.ntmps61
 generalize hA : ({ tmps := _, defers := [] } : Act) = A
 have F : Fr A 46 [(1, (Pk.val p s)), (0, (.int .i64 v))] := by rw [← hA]; exact (Fr.cons (i := 1) (v := (Pk.val p s)) (Fr.cons (i := 0) (v := (.int .i64 v)) (Fr.nil0 rfl rfl) rfl) rfl)
 clear hA; have H := Hp.start w
 refine wp_seq_k (fun K1 hK1 => gx_region ?_)
 refine hz_new (c := (Pk.cells p s)) (t := 33) F H rfl (ex_box rfl (F.e rfl) (gx_box _ _)) ?_; clear F A; intro b2 W A hk hN H9 F; clear H; have H := H9; clear H9
 clear hk hN
 refine zd ?_; intro A F
 refine wpList_nil (hK1 _ _ ?_)
 refine wp_seq_k (fun K3 hK3 => ?_)
 refine wp_region_held_drew (S := fun wx => Hp _ wx _) (by kernel_rfl) H.drew (fun H9 => ?_); clear H; have H := H9; clear H9
 generalize World.drew _ = W at *
 refine td 0 ?_; intro A F
 refine td 1 ?_; intro A F
 refine td 2 ?_; intro A F
 refine td 5 ?_; intro A F
 refine td 6 ?_; intro A F
 refine hb_one (i := 3) (by kernel_rfl) (hb_callk (i := 3) F rfl rfl (ex_call rfl rfl (gx_l1 (F.e rfl) (gx_l1 (F.e rfl) gx_l0)) fn_62) (section_any v s.pa s.pc p.props _ (hp.kept H.k).hp hF.few.hp hF.wf.p (hT.kept H.k)) (fun _ hk => (H.kept hk)) ?_); clear F A; intro W A hk _ F; replace H := H.kept hk
 clear hk
 refine hzh_do (i := 4) F rfl rfl (by kernel_rfl) (fun _ _ _ h => h) (H) (fun wz H => (ex_bin rfl gx_evc (F.e rfl) (rn_add (gx_wrap_i64 (by omega) (by omega))))) ?_; intro A F
 refine hb_one (i := 7) (by kernel_rfl) (hb_callk (i := 7) F rfl rfl (ex_call rfl rfl (gx_l1 (F.e rfl) gx_l0) fn_63) (pbin_any p.client _ (by omega)) (fun _ hk => (H.kept hk)) ?_); clear F A; intro W A hk _ F; replace H := H.kept hk
 clear hk
 refine hzh_do (i := 8) F rfl rfl (by kernel_rfl) (fun _ _ _ h => h) (H) (fun wz H => (ex_bin rfl (F.e rfl) (F.e rfl) (rn_add (gx_wrap_i64 (by omega) (by omega))))) ?_; intro A F
 refine td 9 ?_; intro A F
 refine wpAnyH_done (by kernel_rfl) ?_ _
 refine hK3 _ _ ?_
 refine wp_seq_k (fun K6 hK6 => ?_)
 refine wp_seq_k (fun K7 hK7 => gx_region ?_)
 iterate 2 (refine zd ?_; intro A F)
 refine wpList_nil (hK7 _ _ ?_)
 refine zc (fun hb8 => ?_) (fun hb8 => ?_)
 ·skip
  refine wp_region_held_drew (S := fun wx => Hp _ wx _) (by kernel_rfl) H.drew (fun H9 => ?_); clear H; have H := H9; clear H9
  generalize World.drew _ = W at *
  refine td 0 ?_; intro A F
  refine td 1 ?_; intro A F
  refine td 2 ?_; intro A F
  refine td 3 ?_; intro A F
  refine td 5 ?_; intro A F
  refine td 6 ?_; intro A F
  refine td 9 ?_; intro A F
  refine td 10 ?_; intro A F
  refine hb_one (i := 4) (by kernel_rfl) (hb_callk (i := 4) F rfl rfl (ex_call rfl rfl (gx_l1 (F.e rfl) (gx_l1 (F.e rfl) gx_l0)) fn_62) (section_any v s.wa s.wc p.willProps _ (hp.kept H.k).hw hF.few.hw hF.wf.w (hT.kept H.k)) (fun _ hk => (H.kept hk)) ?_); clear F A; intro W A hk _ F; replace H := H.kept hk
  clear hk
  refine hb_one (i := 7) (by kernel_rfl) (hb_callk (i := 7) F rfl rfl (ex_call rfl rfl (gx_l1 (F.e rfl) gx_l0) fn_63) (pbin_any p.willTopic _ (by omega)) (fun _ hk => (H.kept hk)) ?_); clear F A; intro W A hk _ F; replace H := H.kept hk
  clear hk
  refine hzh_do (i := 8) F rfl rfl (by kernel_rfl) (fun _ _ _ h => h) (H) (fun wz H => (ex_bin rfl (F.e rfl) (F.e rfl) (rn_add (gx_wrap_i64 (by omega) (by omega))))) ?_; intro A F
  refine hb_one (i := 11) (by kernel_rfl) (hb_callk (i := 11) F rfl rfl (ex_call rfl rfl (gx_l1 (F.e rfl) gx_l0) fn_63) (pbin_any p.willLoad _ (by omega)) (fun _ hk => (H.kept hk)) ?_); clear F A; intro W A hk _ F; replace H := H.kept hk
  clear hk
  refine hzh_do (i := 12) F rfl rfl (by kernel_rfl) (fun _ _ _ h => h) (H) (fun wz H => (ex_bin rfl (F.e rfl) (F.e rfl) (rn_add (gx_wrap_i64 (by omega) (by omega))))) ?_; intro A F
  refine hzh_do (i := 13) F rfl rfl (by kernel_rfl) (fun _ _ _ h => h) (H) (fun wz H => (ex_bin rfl (F.e rfl) (F.e rfl) (rn_add (gx_wrap_i64 (by omega) (by omega))))) ?_; intro A F
  refine td 14 ?_; intro A F
  refine wpAnyH_done (by kernel_rfl) ?_ _
  refine hK6 _ _ ?_
  refine wp_seq_k (fun K12 hK12 => ?_)
  refine wp_seq_k (fun K13 hK13 => gx_region ?_)
  iterate 2 (refine zd ?_; intro A F)
  refine wpList_nil (hK13 _ _ ?_)
  refine zc (fun hb14 => ?_) (fun hb14 => ?_)
  ·skip
   replace F := (((F.nil.cons (F.g 5 _ rfl)).cons (F.g 4 _ rfl)).cons (F.g 3 _ rfl))
   refine gx_region ?_
   iterate 3 (refine zd ?_; intro A F)
   refine hz_callk F H rfl (ex_call rfl rfl (gx_l1 (F.e rfl) gx_l0) fn_63) (pbin_any p.user _ (by omega)) ?_; clear F H A; intro W A hk H F
   clear hk
   refine hz_do F rfl (ex_bin rfl (F.e rfl) (F.e rfl) (rn_add (gx_wrap_i64 (by omega) (by omega)))) ?_; intro A F
   refine zd ?_; intro A F
   refine wpList_nil (hK12 _ _ ?_)
   refine wp_seq_k (fun K16 hK16 => ?_)
   refine wp_seq_k (fun K17 hK17 => gx_region ?_)
   iterate 2 (refine zd ?_; intro A F)
   refine wpList_nil (hK17 _ _ ?_)
   refine zc (fun hb18 => ?_) (fun hb18 => ?_)
   ·skip
    refine gx_region ?_
    iterate 3 (refine zd ?_; intro A F)
    refine hz_callk F H rfl (ex_call rfl rfl (gx_l1 (F.e rfl) gx_l0) fn_63) (pbin_any p.pass _ (by omega)) ?_; clear F H A; intro W A hk H F
    clear hk
    refine hz_do F rfl (ex_bin rfl (F.e rfl) (F.e rfl) (rn_add (gx_wrap_i64 (by omega) (by omega)))) ?_; intro A F
    refine zd ?_; intro A F
    refine wpList_nil (hK16 _ _ ?_)
    refine wp_seq_k (fun K20 hK20 => gx_region ?_)
    iterate 2 (refine zd ?_; intro A F)
    refine wpList_nil (hK20 _ _ ?_)
    refine gx_ret ?_
    refine (show bodyPost _ Tryz.f61 RR Exit.ret _ _ from zr ?_)
    exact ri (by (try simp only [← Bool.not_eq_true, Bool.or_eq_true, Bool.and_eq_true, decide_eq_true_eq] at hb8 hb14 hb18); unfold connectN; simp only [hb8, hb14, hb18, ↓reduceIte] <;> exact fin)
   refine wp_skip (hK16 _ _ ?_)
   refine wp_seq_k (fun K21 hK21 => gx_region ?_)
   iterate 2 (refine zd ?_; intro A F)
   refine wpList_nil (hK21 _ _ ?_)
   refine gx_ret ?_
   refine (show bodyPost _ Tryz.f61 RR Exit.ret _ _ from zr ?_)
   exact ri (by (try simp only [← Bool.not_eq_true, Bool.or_eq_true, Bool.and_eq_true, decide_eq_true_eq] at hb8 hb14 hb18); unfold connectN; simp only [hb8, hb14, hb18, ↓reduceIte] <;> exact fin)
  replace F := (((F.nil.cons (F.g 5 _ rfl)).cons (F.g 4 _ rfl)).cons (F.g 3 _ rfl))
  refine wp_skip (hK12 _ _ ?_)
  refine wp_seq_k (fun K22 hK22 => ?_)
  refine wp_seq_k (fun K23 hK23 => gx_region ?_)
  iterate 2 (refine zd ?_; intro A F)
  refine wpList_nil (hK23 _ _ ?_)
  refine zc (fun hb24 => ?_) (fun hb24 => ?_)
  ·skip
   refine gx_region ?_
   iterate 3 (refine zd ?_; intro A F)
   refine hz_callk F H rfl (ex_call rfl rfl (gx_l1 (F.e rfl) gx_l0) fn_63) (pbin_any p.pass _ (by omega)) ?_; clear F H A; intro W A hk H F
   clear hk
   refine hz_do F rfl (ex_bin rfl (F.e rfl) (F.e rfl) (rn_add (gx_wrap_i64 (by omega) (by omega)))) ?_; intro A F
   refine zd ?_; intro A F
   refine wpList_nil (hK22 _ _ ?_)
   refine wp_seq_k (fun K26 hK26 => gx_region ?_)
   iterate 2 (refine zd ?_; intro A F)
   refine wpList_nil (hK26 _ _ ?_)
   refine gx_ret ?_
   refine (show bodyPost _ Tryz.f61 RR Exit.ret _ _ from zr ?_)
   exact ri (by (try simp only [← Bool.not_eq_true, Bool.or_eq_true, Bool.and_eq_true, decide_eq_true_eq] at hb8 hb14 hb24); unfold connectN; simp only [hb8, hb14, hb24, ↓reduceIte] <;> exact fin)
  refine wp_skip (hK22 _ _ ?_)
  refine wp_seq_k (fun K27 hK27 => gx_region ?_)
  iterate 2 (refine zd ?_; intro A F)
  refine wpList_nil (hK27 _ _ ?_)
  refine gx_ret ?_
  refine (show bodyPost _ Tryz.f61 RR Exit.ret _ _ from zr ?_)
  exact ri (by (try simp only [← Bool.not_eq_true, Bool.or_eq_true, Bool.and_eq_true, decide_eq_true_eq] at hb8 hb14 hb24); unfold connectN; simp only [hb8, hb14, hb24, ↓reduceIte] <;> exact fin)
 refine wp_skip (hK6 _ _ ?_)
 refine wp_seq_k (fun K28 hK28 => ?_)
 refine wp_seq_k (fun K29 hK29 => gx_region ?_)
 iterate 2 (refine zd ?_; intro A F)
 refine wpList_nil (hK29 _ _ ?_)
 refine zc (fun hb30 => ?_) (fun hb30 => ?_)
 ·skip
  replace F := (((F.nil.cons (F.g 5 _ rfl)).cons (F.g 4 _ rfl)).cons (F.g 3 _ rfl))
  refine gx_region ?_
  iterate 3 (refine zd ?_; intro A F)
  refine hz_callk F H rfl (ex_call rfl rfl (gx_l1 (F.e rfl) gx_l0) fn_63) (pbin_any p.user _ (by omega)) ?_; clear F H A; intro W A hk H F
  clear hk
  refine hz_do F rfl (ex_bin rfl (F.e rfl) (F.e rfl) (rn_add (gx_wrap_i64 (by omega) (by omega)))) ?_; intro A F
  refine zd ?_; intro A F
  refine wpList_nil (hK28 _ _ ?_)
  refine wp_seq_k (fun K32 hK32 => ?_)
  refine wp_seq_k (fun K33 hK33 => gx_region ?_)
  iterate 2 (refine zd ?_; intro A F)
  refine wpList_nil (hK33 _ _ ?_)
  refine zc (fun hb34 => ?_) (fun hb34 => ?_)
  ·skip
   refine gx_region ?_
   iterate 3 (refine zd ?_; intro A F)
   refine hz_callk F H rfl (ex_call rfl rfl (gx_l1 (F.e rfl) gx_l0) fn_63) (pbin_any p.pass _ (by omega)) ?_; clear F H A; intro W A hk H F
   clear hk
   refine hz_do F rfl (ex_bin rfl (F.e rfl) (F.e rfl) (rn_add (gx_wrap_i64 (by omega) (by omega)))) ?_; intro A F
   refine zd ?_; intro A F
   refine wpList_nil (hK32 _ _ ?_)
   refine wp_seq_k (fun K36 hK36 => gx_region ?_)
   iterate 2 (refine zd ?_; intro A F)
   refine wpList_nil (hK36 _ _ ?_)
   refine gx_ret ?_
   refine (show bodyPost _ Tryz.f61 RR Exit.ret _ _ from zr ?_)
   exact ri (by (try simp only [← Bool.not_eq_true, Bool.or_eq_true, Bool.and_eq_true, decide_eq_true_eq] at hb8 hb30 hb34); unfold connectN; simp only [hb8, hb30, hb34, ↓reduceIte] <;> exact fin)
  refine wp_skip (hK32 _ _ ?_)
  refine wp_seq_k (fun K37 hK37 => gx_region ?_)
  iterate 2 (refine zd ?_; intro A F)
  refine wpList_nil (hK37 _ _ ?_)
  refine gx_ret ?_
  refine (show bodyPost _ Tryz.f61 RR Exit.ret _ _ from zr ?_)
  exact ri (by (try simp only [← Bool.not_eq_true, Bool.or_eq_true, Bool.and_eq_true, decide_eq_true_eq] at hb8 hb30 hb34); unfold connectN; simp only [hb8, hb30, hb34, ↓reduceIte] <;> exact fin)
 replace F := (((F.nil.cons (F.g 5 _ rfl)).cons (F.g 4 _ rfl)).cons (F.g 3 _ rfl))
 refine wp_skip (hK28 _ _ ?_)
 refine wp_seq_k (fun K38 hK38 => ?_)
 refine wp_seq_k (fun K39 hK39 => gx_region ?_)
 iterate 2 (refine zd ?_; intro A F)
 refine wpList_nil (hK39 _ _ ?_)
 refine zc (fun hb40 => ?_) (fun hb40 => ?_)
 ·skip
  refine gx_region ?_
  iterate 3 (refine zd ?_; intro A F)
  refine hz_callk F H rfl (ex_call rfl rfl (gx_l1 (F.e rfl) gx_l0) fn_63) (pbin_any p.pass _ (by omega)) ?_; clear F H A; intro W A hk H F
  clear hk
  refine hz_do F rfl (ex_bin rfl (F.e rfl) (F.e rfl) (rn_add (gx_wrap_i64 (by omega) (by omega)))) ?_; intro A F
  refine zd ?_; intro A F
  refine wpList_nil (hK38 _ _ ?_)
  refine wp_seq_k (fun K42 hK42 => gx_region ?_)
  iterate 2 (refine zd ?_; intro A F)
  refine wpList_nil (hK42 _ _ ?_)
  refine gx_ret ?_
  refine (show bodyPost _ Tryz.f61 RR Exit.ret _ _ from zr ?_)
  exact ri (by (try simp only [← Bool.not_eq_true, Bool.or_eq_true, Bool.and_eq_true, decide_eq_true_eq] at hb8 hb30 hb40); unfold connectN; simp only [hb8, hb30, hb40, ↓reduceIte] <;> exact fin)
 refine wp_skip (hK38 _ _ ?_)
 refine wp_seq_k (fun K43 hK43 => gx_region ?_)
 iterate 2 (refine zd ?_; intro A F)
 refine wpList_nil (hK43 _ _ ?_)
 refine gx_ret ?_
 refine (show bodyPost _ Tryz.f61 RR Exit.ret _ _ from zr ?_)
 exact ri (by (try simp only [← Bool.not_eq_true, Bool.or_eq_true, Bool.and_eq_true, decide_eq_true_eq] at hb8 hb30 hb40); unfold connectN; simp only [hb8, hb30, hb40, ↓reduceIte] <;> exact fin)
theorem Rest_any (v : Int) (p : Pk) (s : Sl) (w : World) (hp : p.At s w) (hF : Fit p) (hT : Tabs w) (hS : ∀ f ∈ p.filters, f.text.size ≤ 65535) :
  Calls Tryz.prog 26 #[.int .i64 v, p.val s] w fun e w' => e = .returned (.int .i64 (restN v p : Int)) ∧ Kept No w w' := by
 have b1 := hF.r.client; have b2 := hF.r.willTopic; have b3 := hF.r.willLoad; have b4 := hF.r.user; have b5 := hF.r.pass; have b6 := hF.r.topic; have b7 := hF.r.load; have b8 := hF.few.hf; have b9 := hF.few.hc; have b10 := hF.few.hp; have b11 := hF.few.hw
 have hsec : ∀ L : List Pr, secN v L ≤ 268435459 := secN_leZ v
 have hs1 := hsec p.props; have hs2 := hsec p.willProps
 have hfl := filtersN_le p.kind p.filters hS
 have hsh : shortN v p ≤ 268435460 := by unfold shortN; have := hsec p.props; split <;> (try split) <;> omega
 have hcn : connectN v p ≤ 4611686018427387904 := by unfold connectN; split <;> split <;> split <;> omega
 let RR : Ending → World → Prop := fun e w' => e = .returned (.int .i64 (restN v p : Int)) ∧ Kept No w w'
 go_enter Tryz.func26, Tryz.ntmps26
 generalize hA : ({ tmps := _, defers := [] } : Act) = A
 have F : Fr A 74 [(1, (Pk.val p s)), (0, (.int .i64 v))] := by rw [← hA]; exact (Fr.cons (i := 1) (v := (Pk.val p s)) (Fr.cons (i := 0) (v := (.int .i64 v)) (Fr.nil0 rfl rfl) rfl) rfl)
 clear hA; have H := Hp.start w
 refine wp_seq_k (fun K1 hK1 => gx_region ?_)
 refine hz_new (c := (Pk.cells p s)) (t := 33) F H rfl (ex_box rfl (F.e rfl) (gx_box _ _)) ?_; clear F A; intro b2 W A hk hN H9 F; clear H; have H := H9; clear H9
 clear hk hN
 refine zd ?_; intro A F
 refine wpList_nil (hK1 _ _ ?_)
 refine wp_seq_k (fun K3 hK3 => ?_)
 refine wp_seq_k (fun K4 hK4 => gx_region ?_)
 iterate 2 (refine zd ?_; intro A F)
 refine wpList_nil (hK4 _ _ ?_)
 refine wp_block ?_
 refine wp_seq_k (fun K5 hK5 => gx_region ?_)
 refine zb (rn_eql) ?_; intro A F
 refine zd ?_; intro A F
 refine wpList_nil (hK5 _ _ ?_)
 refine zc (fun hb6 => ?_) (fun hb6 => ?_)
 ·skip
  refine wp_seq_k (fun K7 hK7 => gx_region ?_)
  refine zd ?_; intro A F
  refine hz_do F rfl (ex_load rfl (F.e rfl) (gl_agg ((Pk.cells p s)) rfl (ga_33 _) (gs_33 _) (fun i => H.cs 0 rfl i))) ?_; intro A F
  refine hz_callk F H rfl (ex_call rfl rfl (gx_l1 (F.e rfl) (gx_l1 (F.e rfl) gx_l0)) fn_61) (connectSize_any v p s _ (hp.kept H.k) hF (hT.kept H.k)) ?_; clear F H A; intro W A hk H F
  clear hk
  refine zd ?_; intro A F
  refine wpList_nil (hK7 _ _ ?_)
  refine gx_ret ?_
  refine (show bodyPost _ Tryz.f26 RR Exit.ret _ _ from zr ?_)
  exact ri (by (try simp only [← Bool.not_eq_true, Bool.or_eq_true, Bool.and_eq_true, decide_eq_true_eq] at hb6); unfold restN; simp only [hb6, ↓reduceIte] <;> exact fin)
 refine wp_seq_k (fun K9 hK9 => gx_region ?_)
 refine zb (rn_eql) ?_; intro A F
 refine zd ?_; intro A F
 refine wpList_nil (hK9 _ _ ?_)
 refine zc (fun hb10 => ?_) (fun hb10 => ?_)
 ·skip
  refine wp_seq_k (fun K11 hK11 => gx_region ?_)
  iterate 3 (refine zd ?_; intro A F)
  refine hz_callk F H rfl (ex_call rfl rfl (gx_l1 (F.e rfl) (gx_l1 (F.e rfl) gx_l0)) fn_62) (section_any v s.pa s.pc p.props _ (hp.kept H.k).hp hF.few.hp hF.wf.p (hT.kept H.k)) ?_; clear F H A; intro W A hk H F
  clear hk
  refine hz_do F rfl (ex_bin rfl gx_evc (F.e rfl) (rn_add (gx_wrap_i64 (by omega) (by omega)))) ?_; intro A F
  refine zd ?_; intro A F
  refine wpList_nil (hK11 _ _ ?_)
  refine gx_ret ?_
  refine (show bodyPost _ Tryz.f26 RR Exit.ret _ _ from zr ?_)
  exact ri (by (try simp only [← Bool.not_eq_true, Bool.or_eq_true, Bool.and_eq_true, decide_eq_true_eq] at hb6 hb10); unfold restN; simp only [hb6, hb10, ↓reduceIte] <;> exact fin)
 refine wp_seq_k (fun K13 hK13 => gx_region ?_)
 refine zb (rn_eql) ?_; intro A F
 refine zd ?_; intro A F
 refine wpList_nil (hK13 _ _ ?_)
 refine zc (fun hb14 => ?_) (fun hb14 => ?_)
 ·skip
  refine wp_seq_k (fun K15 hK15 => ?_)
  refine wp_region_held_drew (S := fun wx => Hp _ wx _) (by kernel_rfl) H.drew (fun H9 => ?_); clear H; have H := H9; clear H9
  generalize World.drew _ = W at *
  refine td 0 ?_; intro A F
  refine td 1 ?_; intro A F
  refine hzh_do (i := 3) F rfl rfl (by kernel_rfl) (fun _ _ _ h => h) (H) (fun wz H => (ex_load rfl (F.e rfl) (gl_agg ((Pk.cells p s)) rfl (ga_33 _) (gs_33 _) (fun i => H.cs 0 rfl i)))) ?_; intro A F
  refine td 6 ?_; intro A F
  refine td 7 ?_; intro A F
  refine td 8 ?_; intro A F
  refine td 11 ?_; intro A F
  refine td 12 ?_; intro A F
  refine hzh_do (i := 13) F rfl rfl (by kernel_rfl) (fun _ _ _ h => h) (H) (fun wz H => (ex_len rfl (gx_l1 (F.e rfl) gx_l0) (rn_lenstr Tryz.underlying9))) ?_; intro A F
  refine hb_one (i := 2) (by kernel_rfl) (hb_callk (i := 2) F rfl rfl (ex_call rfl rfl (gx_l1 (F.e rfl) gx_l0) fn_63) (pbin_any p.topic _ (by omega)) (fun _ hk => (H.kept hk)) ?_); clear F A; intro W A hk _ F; replace H := H.kept hk
  clear hk
  refine hb_one (i := 4) (by kernel_rfl) (hb_callk (i := 4) F rfl rfl (ex_call rfl rfl (gx_l1 (F.e rfl) gx_l0) fn_64) (numsz_any p s _ _ rfl) (fun _ hk => (H.kept hk)) ?_); clear F A; intro W A hk _ F; replace H := H.kept hk
  clear hk
  refine hzh_do (i := 5) F rfl rfl (by kernel_rfl) (fun _ _ _ h => h) (H) (fun wz H => (ex_bin rfl (F.e rfl) (F.e rfl) (rn_add (gx_wrap_i64 (by omega) (by omega))))) ?_; intro A F
  refine hb_one (i := 9) (by kernel_rfl) (hb_callk (i := 9) F rfl rfl (ex_call rfl rfl (gx_l1 (F.e rfl) (gx_l1 (F.e rfl) gx_l0)) fn_62) (section_any v s.pa s.pc p.props _ (hp.kept H.k).hp hF.few.hp hF.wf.p (hT.kept H.k)) (fun _ hk => (H.kept hk)) ?_); clear F A; intro W A hk _ F; replace H := H.kept hk
  clear hk
  refine hzh_do (i := 10) F rfl rfl (by kernel_rfl) (fun _ _ _ h => h) (H) (fun wz H => (ex_bin rfl (F.e rfl) (F.e rfl) (rn_add (gx_wrap_i64 (by omega) (by omega))))) ?_; intro A F
  refine hzh_do (i := 14) F rfl rfl (by kernel_rfl) (fun _ _ _ h => h) (H) (fun wz H => (ex_bin rfl (F.e rfl) (F.e rfl) (rn_add (gx_wrap_i64 (by omega) (by omega))))) ?_; intro A F
  refine td 15 ?_; intro A F
  refine wpAnyH_done (by kernel_rfl) ?_ _
  refine hK15 _ _ ?_
  refine gx_ret ?_
  refine (show bodyPost _ Tryz.f26 RR Exit.ret _ _ from zr ?_)
  exact ri (by (try simp only [← Bool.not_eq_true, Bool.or_eq_true, Bool.and_eq_true, decide_eq_true_eq] at hb6 hb10 hb14); unfold restN; simp only [hb6, hb10, hb14, ↓reduceIte] <;> exact fin)
 refine wp_seq_k (fun K19 hK19 => ?_)
 refine wp_seq_k (fun K20 hK20 => gx_region ?_)
 refine zb (rn_eql) ?_; intro A F
 refine zd ?_; intro A F
 refine wpList_nil (hK20 _ _ ?_)
 refine zc (fun hb21 => ?_) (fun hb21 => ?_)
 ·skip
  refine wp_skip (hK19 _ _ ?_)
  refine wp_cond_true ((F.e rfl).trans (congrArg Value.bool hb21)) ?_
  refine wp_seq_k (fun K22 hK22 => gx_region ?_)
  refine zd ?_; intro A F
  refine hz_do F rfl (ex_load rfl (F.e rfl) (gl_agg ((Pk.cells p s)) rfl (ga_33 _) (gs_33 _) (fun i => H.cs 0 rfl i))) ?_; intro A F
  refine hz_callk F H rfl (ex_call rfl rfl (gx_l1 (F.e rfl) (gx_l1 (F.e rfl) gx_l0)) fn_65) (shortCode_any v p s _ (hp.kept H.k) hF (hT.kept H.k)) ?_; clear F H A; intro W A hk H F
  clear hk
  refine hz_do F rfl (ex_bin rfl gx_evc (F.e rfl) (rn_add (gx_wrap_i64 (by omega) (by omega)))) ?_; intro A F
  refine zd ?_; intro A F
  refine wpList_nil (hK22 _ _ ?_)
  refine gx_ret ?_
  refine (show bodyPost _ Tryz.f26 RR Exit.ret _ _ from zr ?_)
  exact ri (by (try simp only [← Bool.not_eq_true, Bool.or_eq_true, Bool.and_eq_true, decide_eq_true_eq] at hb6 hb10 hb14 hb21); unfold restN; simp only [hb6, hb10, hb14, hb21, ↓reduceIte] <;> exact fin)
 refine wp_seq_k (fun K24 hK24 => gx_region ?_)
 refine zb (rn_eql) ?_; intro A F
 refine zd ?_; intro A F
 refine wpList_nil (hK24 _ _ ?_)
 refine zc (fun hb25 => ?_) (fun hb25 => ?_)
 ·skip
  refine wp_skip (hK19 _ _ ?_)
  refine wp_cond_true ((F.e rfl).trans (congrArg Value.bool hb25)) ?_
  refine wp_seq_k (fun K26 hK26 => gx_region ?_)
  refine zd ?_; intro A F
  refine hz_do F rfl (ex_load rfl (F.e rfl) (gl_agg ((Pk.cells p s)) rfl (ga_33 _) (gs_33 _) (fun i => H.cs 0 rfl i))) ?_; intro A F
  refine hz_callk F H rfl (ex_call rfl rfl (gx_l1 (F.e rfl) (gx_l1 (F.e rfl) gx_l0)) fn_65) (shortCode_any v p s _ (hp.kept H.k) hF (hT.kept H.k)) ?_; clear F H A; intro W A hk H F
  clear hk
  refine hz_do F rfl (ex_bin rfl gx_evc (F.e rfl) (rn_add (gx_wrap_i64 (by omega) (by omega)))) ?_; intro A F
  refine zd ?_; intro A F
  refine wpList_nil (hK26 _ _ ?_)
  refine gx_ret ?_
  refine (show bodyPost _ Tryz.f26 RR Exit.ret _ _ from zr ?_)
  exact ri (by (try simp only [← Bool.not_eq_true, Bool.or_eq_true, Bool.and_eq_true, decide_eq_true_eq] at hb6 hb10 hb14 hb21 hb25); unfold restN; simp only [hb6, hb10, hb14, hb21, hb25, ↓reduceIte] <;> exact fin)
 refine wp_seq_k (fun K28 hK28 => gx_region ?_)
 refine zb (rn_eql) ?_; intro A F
 refine zd ?_; intro A F
 refine wpList_nil (hK28 _ _ ?_)
 refine zc (fun hb29 => ?_) (fun hb29 => ?_)
 ·skip
  refine wp_skip (hK19 _ _ ?_)
  refine wp_cond_true ((F.e rfl).trans (congrArg Value.bool hb29)) ?_
  replace F := ((((F.nil.cons (F.g 6 _ rfl)).cons (F.g 4 _ rfl)).cons (F.g 3 _ rfl)).cons (F.g 0 _ rfl))
  refine wp_seq_k (fun K30 hK30 => gx_region ?_)
  refine zd ?_; intro A F
  refine hz_do F rfl (ex_load rfl (F.e rfl) (gl_agg ((Pk.cells p s)) rfl (ga_33 _) (gs_33 _) (fun i => H.cs 0 rfl i))) ?_; intro A F
  refine hz_callk F H rfl (ex_call rfl rfl (gx_l1 (F.e rfl) (gx_l1 (F.e rfl) gx_l0)) fn_65) (shortCode_any v p s _ (hp.kept H.k) hF (hT.kept H.k)) ?_; clear F H A; intro W A hk H F
  clear hk
  refine hz_do F rfl (ex_bin rfl gx_evc (F.e rfl) (rn_add (gx_wrap_i64 (by omega) (by omega)))) ?_; intro A F
  refine zd ?_; intro A F
  refine wpList_nil (hK30 _ _ ?_)
  refine gx_ret ?_
  refine (show bodyPost _ Tryz.f26 RR Exit.ret _ _ from zr ?_)
  exact ri (by (try simp only [← Bool.not_eq_true, Bool.or_eq_true, Bool.and_eq_true, decide_eq_true_eq] at hb6 hb10 hb14 hb21 hb25 hb29); unfold restN; simp only [hb6, hb10, hb14, hb21, hb25, hb29, ↓reduceIte] <;> exact fin)
 refine gx_region ?_
 refine zb (rn_eql) ?_; intro A F
 refine zd ?_; intro A F
 refine wpList_nil (hK19 _ _ ?_)
 refine zc (fun hb32 => ?_) (fun hb32 => ?_)
 ·skip
  replace F := ((((F.nil.cons (F.g 6 _ rfl)).cons (F.g 4 _ rfl)).cons (F.g 3 _ rfl)).cons (F.g 0 _ rfl))
  refine wp_seq_k (fun K33 hK33 => gx_region ?_)
  refine zd ?_; intro A F
  refine hz_do F rfl (ex_load rfl (F.e rfl) (gl_agg ((Pk.cells p s)) rfl (ga_33 _) (gs_33 _) (fun i => H.cs 0 rfl i))) ?_; intro A F
  refine hz_callk F H rfl (ex_call rfl rfl (gx_l1 (F.e rfl) (gx_l1 (F.e rfl) gx_l0)) fn_65) (shortCode_any v p s _ (hp.kept H.k) hF (hT.kept H.k)) ?_; clear F H A; intro W A hk H F
  clear hk
  refine hz_do F rfl (ex_bin rfl gx_evc (F.e rfl) (rn_add (gx_wrap_i64 (by omega) (by omega)))) ?_; intro A F
  refine zd ?_; intro A F
  refine wpList_nil (hK33 _ _ ?_)
  refine gx_ret ?_
  refine (show bodyPost _ Tryz.f26 RR Exit.ret _ _ from zr ?_)
  exact ri (by (try simp only [← Bool.not_eq_true, Bool.or_eq_true, Bool.and_eq_true, decide_eq_true_eq] at hb6 hb10 hb14 hb21 hb25 hb29 hb32); unfold restN; simp only [hb6, hb10, hb14, hb21, hb25, hb29, hb32, ↓reduceIte] <;> exact fin)
 replace F := ((((F.nil.cons (F.g 6 _ rfl)).cons (F.g 4 _ rfl)).cons (F.g 3 _ rfl)).cons (F.g 0 _ rfl))
 refine wp_seq_k (fun K35 hK35 => ?_)
 refine wp_seq_k (fun K36 hK36 => gx_region ?_)
 refine zb (rn_eql) ?_; intro A F
 refine zd ?_; intro A F
 refine wpList_nil (hK36 _ _ ?_)
 refine zc (fun hb37 => ?_) (fun hb37 => ?_)
 ·skip
  refine wp_skip (hK35 _ _ ?_)
  refine wp_cond_true ((F.e rfl).trans (congrArg Value.bool hb37)) ?_
  refine wp_seq_k (fun K38 hK38 => ?_)
  refine wp_region_held_drew (S := fun wx => Hp _ wx _) (by kernel_rfl) H.drew (fun H9 => ?_); clear H; have H := H9; clear H9
  generalize World.drew _ = W at *
  refine td 0 ?_; intro A F
  refine td 1 ?_; intro A F
  refine td 2 ?_; intro A F
  refine hzh_do (i := 5) F rfl rfl (by kernel_rfl) (fun _ _ _ h => h) (H) (fun wz H => (ex_load rfl (F.e rfl) (gl_agg ((Pk.cells p s)) rfl (ga_33 _) (gs_33 _) (fun i => H.cs 0 rfl i)))) ?_; intro A F
  refine hb_one (i := 3) (by kernel_rfl) (hb_callk (i := 3) F rfl rfl (ex_call rfl rfl (gx_l1 (F.e rfl) (gx_l1 (F.e rfl) gx_l0)) fn_62) (section_any v s.pa s.pc p.props _ (hp.kept H.k).hp hF.few.hp hF.wf.p (hT.kept H.k)) (fun _ hk => (H.kept hk)) ?_); clear F A; intro W A hk _ F; replace H := H.kept hk
  clear hk
  refine hzh_do (i := 4) F rfl rfl (by kernel_rfl) (fun _ _ _ h => h) (H) (fun wz H => (ex_bin rfl gx_evc (F.e rfl) (rn_add (gx_wrap_i64 (by omega) (by omega))))) ?_; intro A F
  refine hb_one (i := 6) (by kernel_rfl) (hb_callk (i := 6) F rfl rfl (ex_call rfl rfl (gx_l1 (F.e rfl) gx_l0) fn_66) (filtersSize_any p s _ (hp.kept H.k) hF hS) (fun _ hk => (H.kept hk)) ?_); clear F A; intro W A hk _ F; replace H := H.kept hk
  clear hk
  refine hzh_do (i := 7) F rfl rfl (by kernel_rfl) (fun _ _ _ h => h) (H) (fun wz H => (ex_bin rfl (F.e rfl) (F.e rfl) (rn_add (gx_wrap_i64 (by omega) (by omega))))) ?_; intro A F
  refine td 8 ?_; intro A F
  refine wpAnyH_done (by kernel_rfl) ?_ _
  refine hK38 _ _ ?_
  refine gx_ret ?_
  refine (show bodyPost _ Tryz.f26 RR Exit.ret _ _ from zr ?_)
  exact ri (by (try simp only [← Bool.not_eq_true, Bool.or_eq_true, Bool.and_eq_true, decide_eq_true_eq] at hb6 hb10 hb14 hb21 hb25 hb29 hb32 hb37); unfold restN; simp only [hb6, hb10, hb14, hb21, hb25, hb29, hb32, hb37, ↓reduceIte] <;> exact fin)
 refine gx_region ?_
 refine zb (rn_eql) ?_; intro A F
 refine zd ?_; intro A F
 refine wpList_nil (hK35 _ _ ?_)
 refine zc (fun hb41 => ?_) (fun hb41 => ?_)
 ·skip
  refine wp_seq_k (fun K42 hK42 => ?_)
  refine wp_region_held_drew (S := fun wx => Hp _ wx _) (by kernel_rfl) H.drew (fun H9 => ?_); clear H; have H := H9; clear H9
  generalize World.drew _ = W at *
  refine td 0 ?_; intro A F
  refine td 1 ?_; intro A F
  refine td 2 ?_; intro A F
  refine hzh_do (i := 5) F rfl rfl (by kernel_rfl) (fun _ _ _ h => h) (H) (fun wz H => (ex_load rfl (F.e rfl) (gl_agg ((Pk.cells p s)) rfl (ga_33 _) (gs_33 _) (fun i => H.cs 0 rfl i)))) ?_; intro A F
  refine hb_one (i := 3) (by kernel_rfl) (hb_callk (i := 3) F rfl rfl (ex_call rfl rfl (gx_l1 (F.e rfl) (gx_l1 (F.e rfl) gx_l0)) fn_62) (section_any v s.pa s.pc p.props _ (hp.kept H.k).hp hF.few.hp hF.wf.p (hT.kept H.k)) (fun _ hk => (H.kept hk)) ?_); clear F A; intro W A hk _ F; replace H := H.kept hk
  clear hk
  refine hzh_do (i := 4) F rfl rfl (by kernel_rfl) (fun _ _ _ h => h) (H) (fun wz H => (ex_bin rfl gx_evc (F.e rfl) (rn_add (gx_wrap_i64 (by omega) (by omega))))) ?_; intro A F
  refine hb_one (i := 6) (by kernel_rfl) (hb_callk (i := 6) F rfl rfl (ex_call rfl rfl (gx_l1 (F.e rfl) gx_l0) fn_66) (filtersSize_any p s _ (hp.kept H.k) hF hS) (fun _ hk => (H.kept hk)) ?_); clear F A; intro W A hk _ F; replace H := H.kept hk
  clear hk
  refine hzh_do (i := 7) F rfl rfl (by kernel_rfl) (fun _ _ _ h => h) (H) (fun wz H => (ex_bin rfl (F.e rfl) (F.e rfl) (rn_add (gx_wrap_i64 (by omega) (by omega))))) ?_; intro A F
  refine td 8 ?_; intro A F
  refine wpAnyH_done (by kernel_rfl) ?_ _
  refine hK42 _ _ ?_
  refine gx_ret ?_
  refine (show bodyPost _ Tryz.f26 RR Exit.ret _ _ from zr ?_)
  exact ri (by (try simp only [← Bool.not_eq_true, Bool.or_eq_true, Bool.and_eq_true, decide_eq_true_eq] at hb6 hb10 hb14 hb21 hb25 hb29 hb32 hb37 hb41); unfold restN; simp only [hb6, hb10, hb14, hb21, hb25, hb29, hb32, hb37, hb41, ↓reduceIte] <;> exact fin)
 refine wp_seq_k (fun K45 hK45 => ?_)
 refine wp_seq_k (fun K46 hK46 => gx_region ?_)
 refine zb (rn_eql) ?_; intro A F
 refine zd ?_; intro A F
 refine wpList_nil (hK46 _ _ ?_)
 refine zc (fun hb47 => ?_) (fun hb47 => ?_)
 ·skip
  refine wp_skip (hK45 _ _ ?_)
  refine wp_cond_true ((F.e rfl).trans (congrArg Value.bool hb47)) ?_
  refine wp_seq_k (fun K48 hK48 => ?_)
  refine wp_region_held_drew (S := fun wx => Hp _ wx _) (by kernel_rfl) H.drew (fun H9 => ?_); clear H; have H := H9; clear H9
  generalize World.drew _ = W at *
  refine td 0 ?_; intro A F
  refine td 1 ?_; intro A F
  refine td 2 ?_; intro A F
  refine td 5 ?_; intro A F
  refine td 6 ?_; intro A F
  refine hzh_do (i := 7) F rfl rfl (by kernel_rfl) (fun _ _ _ h => h) (H) (fun wz H => (ex_len rfl (gx_l1 (F.e rfl) gx_l0) (rn_lens Tryz.underlying25))) ?_; intro A F
  refine hb_one (i := 3) (by kernel_rfl) (hb_callk (i := 3) F rfl rfl (ex_call rfl rfl (gx_l1 (F.e rfl) (gx_l1 (F.e rfl) gx_l0)) fn_62) (section_any v s.pa s.pc p.props _ (hp.kept H.k).hp hF.few.hp hF.wf.p (hT.kept H.k)) (fun _ hk => (H.kept hk)) ?_); clear F A; intro W A hk _ F; replace H := H.kept hk
  clear hk
  refine hzh_do (i := 4) F rfl rfl (by kernel_rfl) (fun _ _ _ h => h) (H) (fun wz H => (ex_bin rfl gx_evc (F.e rfl) (rn_add (gx_wrap_i64 (by omega) (by omega))))) ?_; intro A F
  refine hzh_do (i := 8) F rfl rfl (by kernel_rfl) (fun _ _ _ h => h) (H) (fun wz H => (ex_bin rfl (F.e rfl) (F.e rfl) (rn_add (gx_wrap_i64 (by omega) (by omega))))) ?_; intro A F
  refine td 9 ?_; intro A F
  refine wpAnyH_done (by kernel_rfl) ?_ _
  refine hK48 _ _ ?_
  refine gx_ret ?_
  refine (show bodyPost _ Tryz.f26 RR Exit.ret _ _ from zr ?_)
  exact ri (by (try simp only [← Bool.not_eq_true, Bool.or_eq_true, Bool.and_eq_true, decide_eq_true_eq] at hb6 hb10 hb14 hb21 hb25 hb29 hb32 hb37 hb41 hb47); unfold restN; simp only [hb6, hb10, hb14, hb21, hb25, hb29, hb32, hb37, hb41, hb47, ↓reduceIte] <;> exact fin)
 refine gx_region ?_
 refine zb (rn_eql) ?_; intro A F
 refine zd ?_; intro A F
 refine wpList_nil (hK45 _ _ ?_)
 refine zc (fun hb50 => ?_) (fun hb50 => ?_)
 ·skip
  refine wp_seq_k (fun K51 hK51 => ?_)
  refine wp_region_held_drew (S := fun wx => Hp _ wx _) (by kernel_rfl) H.drew (fun H9 => ?_); clear H; have H := H9; clear H9
  generalize World.drew _ = W at *
  refine td 0 ?_; intro A F
  refine td 1 ?_; intro A F
  refine td 2 ?_; intro A F
  refine td 5 ?_; intro A F
  refine td 6 ?_; intro A F
  refine hzh_do (i := 7) F rfl rfl (by kernel_rfl) (fun _ _ _ h => h) (H) (fun wz H => (ex_len rfl (gx_l1 (F.e rfl) gx_l0) (rn_lens Tryz.underlying25))) ?_; intro A F
  refine hb_one (i := 3) (by kernel_rfl) (hb_callk (i := 3) F rfl rfl (ex_call rfl rfl (gx_l1 (F.e rfl) (gx_l1 (F.e rfl) gx_l0)) fn_62) (section_any v s.pa s.pc p.props _ (hp.kept H.k).hp hF.few.hp hF.wf.p (hT.kept H.k)) (fun _ hk => (H.kept hk)) ?_); clear F A; intro W A hk _ F; replace H := H.kept hk
  clear hk
  refine hzh_do (i := 4) F rfl rfl (by kernel_rfl) (fun _ _ _ h => h) (H) (fun wz H => (ex_bin rfl gx_evc (F.e rfl) (rn_add (gx_wrap_i64 (by omega) (by omega))))) ?_; intro A F
  refine hzh_do (i := 8) F rfl rfl (by kernel_rfl) (fun _ _ _ h => h) (H) (fun wz H => (ex_bin rfl (F.e rfl) (F.e rfl) (rn_add (gx_wrap_i64 (by omega) (by omega))))) ?_; intro A F
  refine td 9 ?_; intro A F
  refine wpAnyH_done (by kernel_rfl) ?_ _
  refine hK51 _ _ ?_
  refine gx_ret ?_
  refine (show bodyPost _ Tryz.f26 RR Exit.ret _ _ from zr ?_)
  exact ri (by (try simp only [← Bool.not_eq_true, Bool.or_eq_true, Bool.and_eq_true, decide_eq_true_eq] at hb6 hb10 hb14 hb21 hb25 hb29 hb32 hb37 hb41 hb47 hb50); unfold restN; simp only [hb6, hb10, hb14, hb21, hb25, hb29, hb32, hb37, hb41, hb47, hb50, ↓reduceIte] <;> exact fin)
 refine wp_seq_k (fun K53 hK53 => ?_)
 refine wp_seq_k (fun K54 hK54 => gx_region ?_)
 refine zb (rn_eql) ?_; intro A F
 refine zd ?_; intro A F
 refine wpList_nil (hK54 _ _ ?_)
 refine zc (fun hb55 => ?_) (fun hb55 => ?_)
 ·skip
  refine wp_skip (hK53 _ _ ?_)
  refine wp_cond_true ((F.e rfl).trans (congrArg Value.bool hb55)) ?_
  refine wp_seq_k (fun K56 hK56 => gx_region ?_)
  refine zd ?_; intro A F
  refine hz_do F rfl (ex_load rfl (F.e rfl) (gl_agg ((Pk.cells p s)) rfl (ga_33 _) (gs_33 _) (fun i => H.cs 0 rfl i))) ?_; intro A F
  refine hz_callk F H rfl (ex_call rfl rfl (gx_l1 (F.e rfl) (gx_l1 (F.e rfl) gx_l0)) fn_65) (shortCode_any v p s _ (hp.kept H.k) hF (hT.kept H.k)) ?_; clear F H A; intro W A hk H F
  clear hk
  refine zd ?_; intro A F
  refine wpList_nil (hK56 _ _ ?_)
  refine gx_ret ?_
  refine (show bodyPost _ Tryz.f26 RR Exit.ret _ _ from zr ?_)
  exact ri (by (try simp only [← Bool.not_eq_true, Bool.or_eq_true, Bool.and_eq_true, decide_eq_true_eq] at hb6 hb10 hb14 hb21 hb25 hb29 hb32 hb37 hb41 hb47 hb50 hb55); unfold restN; simp only [hb6, hb10, hb14, hb21, hb25, hb29, hb32, hb37, hb41, hb47, hb50, hb55, ↓reduceIte] <;> exact fin)
 refine gx_region ?_
 refine zb (rn_eql) ?_; intro A F
 refine zd ?_; intro A F
 refine wpList_nil (hK53 _ _ ?_)
 refine zc (fun hb58 => ?_) (fun hb58 => ?_)
 ·skip
  refine wp_seq_k (fun K59 hK59 => gx_region ?_)
  refine zd ?_; intro A F
  refine hz_do F rfl (ex_load rfl (F.e rfl) (gl_agg ((Pk.cells p s)) rfl (ga_33 _) (gs_33 _) (fun i => H.cs 0 rfl i))) ?_; intro A F
  refine hz_callk F H rfl (ex_call rfl rfl (gx_l1 (F.e rfl) (gx_l1 (F.e rfl) gx_l0)) fn_65) (shortCode_any v p s _ (hp.kept H.k) hF (hT.kept H.k)) ?_; clear F H A; intro W A hk H F
  clear hk
  refine zd ?_; intro A F
  refine wpList_nil (hK59 _ _ ?_)
  refine gx_ret ?_
  refine (show bodyPost _ Tryz.f26 RR Exit.ret _ _ from zr ?_)
  exact ri (by (try simp only [← Bool.not_eq_true, Bool.or_eq_true, Bool.and_eq_true, decide_eq_true_eq] at hb6 hb10 hb14 hb21 hb25 hb29 hb32 hb37 hb41 hb47 hb50 hb55 hb58); unfold restN; simp only [hb6, hb10, hb14, hb21, hb25, hb29, hb32, hb37, hb41, hb47, hb50, hb55, hb58, ↓reduceIte] <;> exact fin)
 refine wp_skip (hK3 _ _ ?_)
 refine wp_seq_k (fun K61 hK61 => gx_region ?_)
 refine zd ?_; intro A F
 refine wpList_nil (hK61 _ _ ?_)
 refine gx_ret ?_
 refine (show bodyPost _ Tryz.f26 RR Exit.ret _ _ from zr ?_)
 exact ri (by (try simp only [← Bool.not_eq_true, Bool.or_eq_true, Bool.and_eq_true, decide_eq_true_eq] at hb6 hb10 hb14 hb21 hb25 hb29 hb32 hb37 hb41 hb47 hb50 hb55 hb58); unfold restN; simp only [hb6, hb10, hb14, hb21, hb25, hb29, hb32, hb37, hb41, hb47, hb50, hb55, hb58, ↓reduceIte] <;> exact fin)
theorem bare_few {p : Pk} (h : p.few) : (bareP p).few := by
 have h1 := h.hw; have h2 := h.hf; have h3 := h.hc; have h4 := h.hp
 have hz : ∀ k, (zk k).few := fun k => ⟨by simp [zk], by simp [zk], by simp [zk], by simp [zk]⟩
 unfold bareP
 repeat' split
 all_goals first
  | exact hz _
  | (refine ⟨?_, ?_, ?_, ?_⟩ <;> (try simp only [zk]) <;> first | assumption | (split <;> first | assumption | simp) | simp)
theorem bare_kind (p : Pk) : (bareP p).kind = p.kind := by
 unfold bareP
 repeat' split
 all_goals simp_all [zk]
theorem filter_65535 {s : ByteArray} (h : filterB s = true) : s.size ≤ 65535 := by
 unfold filterB okText at h
 simp only [Bool.and_eq_true, decide_eq_true_eq] at h
 omega
theorem right_S {v : Int} {p : Pk} (h1 : sameB p (bareP p) = true) (h2 : fieldsB v p = true) : ∀ f ∈ p.filters, f.text.size ≤ 65535 := by
 rw [sameB_eq] at h1
 have h1 := of_decide_eq_true h1
 by_cases hk : p.kind = 8 ∨ p.kind = 10
 ·unfold fieldsB at h2
  rw [if_neg (by omega), if_neg (by omega), if_neg (by omega), if_neg (by omega), if_pos hk] at h2
  unfold filtersB at h2
  simp only [Bool.and_eq_true] at h2
  exact fun f hf => filter_65535 (Pr.few_txt h2.2.2.2 f hf)
 ·have : p.filters = [] := by
   rw [h1]
   unfold bareP
   repeat' split
   all_goals first | rfl | (exfalso; omega)
  rw [this]
  intro f hf
  cases hf
def ownSl (p : Pk) (s : Sl) : Sl :=
 if p.kind = 1 then ⟨if p.hasWill then s.wa else none, if p.hasWill then s.wc else 0, none, 0, none, 0, s.pa, s.pc⟩
 else if p.kind = 8 ∨ p.kind = 10 then ⟨none, 0, s.fa, s.fc, none, 0, s.pa, s.pc⟩
 else if p.kind = 9 ∨ p.kind = 11 then ⟨none, 0, none, 0, s.ca, s.cc, s.pa, s.pc⟩
 else if p.kind = 2 ∨ p.kind = 3 ∨ p.kind = 4 ∨ p.kind = 5 ∨ p.kind = 6 ∨ p.kind = 7 ∨ p.kind = 14 ∨ p.kind = 15 then ⟨none, 0, none, 0, none, 0, s.pa, s.pc⟩
 else ⟨none, 0, none, 0, none, 0, none, 0⟩
theorem kinds_or (k : Int) : k = 1 ∨ k = 2 ∨ k = 3 ∨ k = 4 ∨ k = 5 ∨ k = 6 ∨ k = 7 ∨ k = 8 ∨ k = 9 ∨ k = 10 ∨ k = 11 ∨ k = 14 ∨ k = 15 ∨ (k ≠ 1 ∧ k ≠ 2 ∧ k ≠ 3 ∧ k ≠ 4 ∧ k ≠ 5 ∧ k ≠ 6 ∧ k ≠ 7 ∧ k ≠ 8 ∧ k ≠ 9 ∧ k ≠ 10 ∧ k ≠ 11 ∧ k ≠ 14 ∧ k ≠ 15) := by omega
theorem ownSl_at {p : Pk} {s : Sl} {w : World} (h : p.At s w) : (bareP p).At (ownSl p s) w := by
 obtain ⟨h1, h2, h3, h4⟩ := h
 unfold bareP ownSl
 rcases kinds_or p.kind with k | k | k | k | k | k | k | k | k | k | k | k | k | ⟨k1, k2, k3, k4, k5, k6, k7, k8, k9, k10, k11, k14, k15⟩
 ·simp only [k, ↓reduceIte]
  cases p.hasWill
  ·exact ⟨.nil _ _, .nil _ _, .nil _ _, h4⟩
  ·exact ⟨h1, .nil _ _, .nil _ _, h4⟩
 all_goals (first | simp only [k, ↓reduceIte, Int.reduceEq, or_self, or_true, true_or, false_or, or_false] | simp only [k1, k2, k3, k4, k5, k6, k7, k8, k9, k10, k11, k14, k15, ↓reduceIte, or_self])
 all_goals exact ⟨.nil _ _, by first | exact h2 | exact .nil _ _, by first | exact h3 | exact .nil _ _, by first | exact h4 | exact .nil _ _⟩
set_option maxHeartbeats 1000000 in
theorem ownConnect_any (p : Pk) (s : Sl) (w : World) (hp : p.At s w) (hk1 : p.kind = 1) :
  Calls Tryz.prog 146 #[p.val s] w fun e w' => e = .returned (Pk.val (bareP p) (ownSl p s)) ∧ Kept No w w' := by
 let RR : Ending → World → Prop := fun e w' => e = .returned (Pk.val (bareP p) (ownSl p s)) ∧ Kept No w w'
 go_enter Tryz.func146, Tryz.ntmps146
 generalize hA : ({ tmps := _, defers := [] } : Act) = A
 have F : Fr A 49 [(0, (Pk.val p s))] := by rw [← hA]; exact (Fr.cons (i := 0) (v := (Pk.val p s)) (Fr.nil0 rfl rfl) rfl)
 clear hA; have H := Hp.start w
 refine wp_seq_k (fun K1 hK1 => gx_region ?_)
 refine hz_new (c := (Pk.cells p s)) (t := 33) F H rfl (ex_box rfl (F.e rfl) (gx_box _ _)) ?_; clear F A; intro b2 W A hk hN H9 F; clear H; have H := H9; clear H9
 clear hk hN
 refine hz_new (c := zeroPk) (t := 33) F H rfl (ex_alloc rfl (al_33 _)) ?_; clear F A; intro b3 W A hk hN H9 F; clear H; have H := H9; clear H9
 clear hk hN
 refine wpList_nil (hK1 _ _ ?_)
 refine wp_seq_k (fun K4 hK4 => gx_region ?_)
 iterate 16 (refine zd ?_; intro A F)
 refine hz_do (v := (Pk.val ({ zk p.kind with clean := p.clean, keep := p.keep, props := p.props, client := p.client, hasWill := p.hasWill, hasUser := p.hasUser, hasPass := p.hasPass }) ((⟨none, 0, none, 0, none, 0, s.pa, s.pc⟩ : Sl)))) F rfl (ex_build rfl (gx_p1 (F.e rfl) (gx_p1 (F.e rfl) (gx_p1 (F.e rfl) (gx_p1 (F.e rfl) (gx_p1 (F.e rfl) (gx_p1 (F.e rfl) (gx_p1 (F.e rfl) (gx_p1 (F.e rfl) gx_p0)))))))) (by kernel_rfl)) ?_; intro A F
 refine hz_new (c := zeroPk) (t := 33) F H rfl (ex_alloc rfl (al_33 _)) ?_; clear F A; intro b5 W A hk hN H9 F; clear H; have H := H9; clear H9
 clear hk hN
 obtain ⟨W9, hr, hB, hk⟩ := gx_storeAgg (P := Tryz.prog) (S := 33) (c := (Pk.cells ({ zk p.kind with clean := p.clean, keep := p.keep, props := p.props, client := p.client, hasWill := p.hasWill, hasUser := p.hasUser, hasPass := p.hasPass }) ((⟨none, 0, none, 0, none, 0, s.pa, s.pc⟩ : Sl)))) _ (H.b.at_ (j := 0) rfl).1 (gs_33 _) rfl (pk_one _ _)
 refine hz_st (ex_store rfl (F.e rfl) (F.e rfl) hr) ?_; clear hr; replace H : Hp _ _ [_, _, _] := Hp.turn [] H hk hB; clear hk hB
 refine wpList_nil (hK4 _ _ ?_)
 refine wp_seq_k (fun K6 hK6 => ?_)
 refine wp_seq_k (fun K7 hK7 => gx_region ?_)
 iterate 2 (refine zd ?_; intro A F)
 refine wpList_nil (hK7 _ _ ?_)
 refine zc (fun hb8 => ?_) (fun hb8 => ?_)
 ·skip
  replace F := (((F.nil.cons (F.g 3 _ rfl)).cons (F.g 2 _ rfl)).cons (F.g 1 _ rfl))
  refine wp_region_held_drew (S := fun wx => ∃ c9, Hp _ wx [⟨b5, 33, c9⟩, _, _]) (by kernel_rfl) ⟨_, H.drew⟩ (fun H9 => ?_); clear H9; replace H := H.drew
  generalize World.drew _ = W at *
  refine td 0 ?_; intro A F
  refine td 1 ?_; intro A F
  refine td 2 ?_; intro A F
  refine td 3 ?_; intro A F
  refine td 4 ?_; intro A F
  refine td 5 ?_; intro A F
  refine td 6 ?_; intro A F
  refine td 7 ?_; intro A F
  refine td 8 ?_; intro A F
  refine td 9 ?_; intro A F
  refine td 10 ?_; intro A F
  let P9 : Pk := { { zk p.kind with clean := p.clean, keep := p.keep, props := p.props, client := p.client, hasWill := p.hasWill, hasUser := p.hasUser, hasPass := p.hasPass } with willQoS := p.willQoS }
  refine tst 11 [] ((Pk.cells P9 ((⟨none, 0, none, 0, none, 0, s.pa, s.pc⟩ : Sl)))) ?_; intro W H9 hk
  clear H hk; have H := H9; clear H9
  refine td 12 ?_; intro A F
  let P10 : Pk := { P9 with willRetain := p.willRetain }
  refine tst 13 [] ((Pk.cells P10 ((⟨none, 0, none, 0, none, 0, s.pa, s.pc⟩ : Sl)))) ?_; intro W H9 hk
  clear H hk; have H := H9; clear H9
  refine td 14 ?_; intro A F
  let s11 : Sl := { (⟨none, 0, none, 0, none, 0, s.pa, s.pc⟩ : Sl) with wa := s.wa, wc := s.wc }
  let P12 : Pk := { P10 with willProps := p.willProps }
  refine tst 15 [] ((Pk.cells P12 s11)) ?_; intro W H9 hk
  clear H hk; have H := H9; clear H9
  refine td 16 ?_; intro A F
  let P13 : Pk := { P12 with willTopic := p.willTopic }
  refine tst 17 [] ((Pk.cells P13 s11)) ?_; intro W H9 hk
  clear H hk; have H := H9; clear H9
  refine td 18 ?_; intro A F
  let P14 : Pk := { P13 with willLoad := p.willLoad }
  refine tst 19 [] ((Pk.cells P14 s11)) ?_; intro W H9 hk
  clear H hk; have H := H9; clear H9
  refine wpAnyH_done (by kernel_rfl) ?_ _
  refine hK6 _ _ ?_
  refine wp_seq_k (fun K15 hK15 => ?_)
  refine wp_seq_k (fun K16 hK16 => gx_region ?_)
  iterate 2 (refine zd ?_; intro A F)
  refine wpList_nil (hK16 _ _ ?_)
  refine zc (fun hb17 => ?_) (fun hb17 => ?_)
  ·skip
   replace F := (((F.nil.cons (F.g 3 _ rfl)).cons (F.g 2 _ rfl)).cons (F.g 1 _ rfl))
   refine gx_region ?_
   iterate 3 (refine zd ?_; intro A F)
   let P18 : Pk := { P14 with user := p.user }
   refine zs [] ((Pk.cells P18 s11)) ?_; intro W H9 hk
   clear H hk; have H := H9; clear H9
   refine wpList_nil (hK15 _ _ ?_)
   refine wp_seq_k (fun K19 hK19 => ?_)
   refine wp_seq_k (fun K20 hK20 => gx_region ?_)
   iterate 2 (refine zd ?_; intro A F)
   refine wpList_nil (hK20 _ _ ?_)
   refine zc (fun hb21 => ?_) (fun hb21 => ?_)
   ·skip
    refine gx_region ?_
    iterate 3 (refine zd ?_; intro A F)
    let P22 : Pk := { P18 with pass := p.pass }
    refine zs [] ((Pk.cells P22 s11)) ?_; intro W H9 hk
    clear H hk; have H := H9; clear H9
    refine wpList_nil (hK19 _ _ ?_)
    refine wp_seq_k (fun K23 hK23 => gx_region ?_)
    refine hz_do F rfl (ex_load rfl (F.e rfl) (gl_agg ((Pk.cells P22 s11)) rfl (ga_33 _) (gs_33 _) (fun i => H.cs 0 rfl i))) ?_; intro A F
    obtain ⟨W9, hr, hB, hk⟩ := gx_storeAgg (P := Tryz.prog) (S := 33) (c := (Pk.cells P22 s11)) _ (H.b.at_ (j := 1) rfl).1 (gs_33 _) rfl (pk_one _ _)
    refine hz_st (ex_store rfl (F.e rfl) (F.e rfl) hr) ?_; clear hr; replace H : Hp _ _ [_, _, _] := Hp.turn [_] H hk hB; clear hk hB
    refine wpList_nil (hK23 _ _ ?_)
    refine gx_ret ?_
    refine (show bodyPost _ Tryz.f146 RR Exit.ret _ _ from ?_)
    exact bodyPost_ret (fn := Tryz.f146) (gx_resc rfl (F.g 2 _ rfl) (gl_agg ((Pk.cells P22 s11)) rfl (ga_33 _) (gs_33 _) (fun i => H.cs 1 rfl i))) F.d (⟨by unfold Pk.val; exact congrArg (fun x => Ending.returned (.agg x)) (congr (congrArg Pk.cells (by show { { zk p.kind with clean := p.clean, keep := p.keep, props := p.props, client := p.client, hasWill := p.hasWill, hasUser := p.hasUser, hasPass := p.hasPass } with willQoS := p.willQoS, willRetain := p.willRetain, willProps := p.willProps, willTopic := p.willTopic, willLoad := p.willLoad, user := p.user, pass := p.pass } = _; (try simp only [← Bool.not_eq_true, Bool.or_eq_true, Bool.and_eq_true, decide_eq_true_eq] at hb8 hb17 hb21 hk1); unfold bareP; simp only [hb8, hb17, hb21, hk1, ↓reduceIte, or_true, true_or, or_self, Int.reduceEq, or_false, false_or] <;> (first | done | rfl))) (by show { (⟨none, 0, none, 0, none, 0, s.pa, s.pc⟩ : Sl) with wa := s.wa, wc := s.wc } = _; (try simp only [← Bool.not_eq_true, Bool.or_eq_true, Bool.and_eq_true, decide_eq_true_eq] at hb8 hb17 hb21 hk1); unfold ownSl; simp only [hb8, hb17, hb21, hk1, ↓reduceIte, or_true, true_or, or_self, Int.reduceEq, or_false, false_or] <;> (first | done | rfl))), H.k⟩)
   refine wp_skip (hK19 _ _ ?_)
   refine wp_seq_k (fun K24 hK24 => gx_region ?_)
   refine hz_do F rfl (ex_load rfl (F.e rfl) (gl_agg ((Pk.cells P18 s11)) rfl (ga_33 _) (gs_33 _) (fun i => H.cs 0 rfl i))) ?_; intro A F
   obtain ⟨W9, hr, hB, hk⟩ := gx_storeAgg (P := Tryz.prog) (S := 33) (c := (Pk.cells P18 s11)) _ (H.b.at_ (j := 1) rfl).1 (gs_33 _) rfl (pk_one _ _)
   refine hz_st (ex_store rfl (F.e rfl) (F.e rfl) hr) ?_; clear hr; replace H : Hp _ _ [_, _, _] := Hp.turn [_] H hk hB; clear hk hB
   refine wpList_nil (hK24 _ _ ?_)
   refine gx_ret ?_
   refine (show bodyPost _ Tryz.f146 RR Exit.ret _ _ from ?_)
   exact bodyPost_ret (fn := Tryz.f146) (gx_resc rfl (F.g 2 _ rfl) (gl_agg ((Pk.cells P18 s11)) rfl (ga_33 _) (gs_33 _) (fun i => H.cs 1 rfl i))) F.d (⟨by unfold Pk.val; exact congrArg (fun x => Ending.returned (.agg x)) (congr (congrArg Pk.cells (by show { { zk p.kind with clean := p.clean, keep := p.keep, props := p.props, client := p.client, hasWill := p.hasWill, hasUser := p.hasUser, hasPass := p.hasPass } with willQoS := p.willQoS, willRetain := p.willRetain, willProps := p.willProps, willTopic := p.willTopic, willLoad := p.willLoad, user := p.user } = _; (try simp only [← Bool.not_eq_true, Bool.or_eq_true, Bool.and_eq_true, decide_eq_true_eq] at hb8 hb17 hb21 hk1); unfold bareP; simp only [hb8, hb17, hb21, hk1, ↓reduceIte, or_true, true_or, or_self, Int.reduceEq, or_false, false_or] <;> (first | done | rfl))) (by show { (⟨none, 0, none, 0, none, 0, s.pa, s.pc⟩ : Sl) with wa := s.wa, wc := s.wc } = _; (try simp only [← Bool.not_eq_true, Bool.or_eq_true, Bool.and_eq_true, decide_eq_true_eq] at hb8 hb17 hb21 hk1); unfold ownSl; simp only [hb8, hb17, hb21, hk1, ↓reduceIte, or_true, true_or, or_self, Int.reduceEq, or_false, false_or] <;> (first | done | rfl))), H.k⟩)
  replace F := (((F.nil.cons (F.g 3 _ rfl)).cons (F.g 2 _ rfl)).cons (F.g 1 _ rfl))
  refine wp_skip (hK15 _ _ ?_)
  refine wp_seq_k (fun K25 hK25 => ?_)
  refine wp_seq_k (fun K26 hK26 => gx_region ?_)
  iterate 2 (refine zd ?_; intro A F)
  refine wpList_nil (hK26 _ _ ?_)
  refine zc (fun hb27 => ?_) (fun hb27 => ?_)
  ·skip
   refine gx_region ?_
   iterate 3 (refine zd ?_; intro A F)
   let P28 : Pk := { P14 with pass := p.pass }
   refine zs [] ((Pk.cells P28 s11)) ?_; intro W H9 hk
   clear H hk; have H := H9; clear H9
   refine wpList_nil (hK25 _ _ ?_)
   refine wp_seq_k (fun K29 hK29 => gx_region ?_)
   refine hz_do F rfl (ex_load rfl (F.e rfl) (gl_agg ((Pk.cells P28 s11)) rfl (ga_33 _) (gs_33 _) (fun i => H.cs 0 rfl i))) ?_; intro A F
   obtain ⟨W9, hr, hB, hk⟩ := gx_storeAgg (P := Tryz.prog) (S := 33) (c := (Pk.cells P28 s11)) _ (H.b.at_ (j := 1) rfl).1 (gs_33 _) rfl (pk_one _ _)
   refine hz_st (ex_store rfl (F.e rfl) (F.e rfl) hr) ?_; clear hr; replace H : Hp _ _ [_, _, _] := Hp.turn [_] H hk hB; clear hk hB
   refine wpList_nil (hK29 _ _ ?_)
   refine gx_ret ?_
   refine (show bodyPost _ Tryz.f146 RR Exit.ret _ _ from ?_)
   exact bodyPost_ret (fn := Tryz.f146) (gx_resc rfl (F.g 2 _ rfl) (gl_agg ((Pk.cells P28 s11)) rfl (ga_33 _) (gs_33 _) (fun i => H.cs 1 rfl i))) F.d (⟨by unfold Pk.val; exact congrArg (fun x => Ending.returned (.agg x)) (congr (congrArg Pk.cells (by show { { zk p.kind with clean := p.clean, keep := p.keep, props := p.props, client := p.client, hasWill := p.hasWill, hasUser := p.hasUser, hasPass := p.hasPass } with willQoS := p.willQoS, willRetain := p.willRetain, willProps := p.willProps, willTopic := p.willTopic, willLoad := p.willLoad, pass := p.pass } = _; (try simp only [← Bool.not_eq_true, Bool.or_eq_true, Bool.and_eq_true, decide_eq_true_eq] at hb8 hb17 hb27 hk1); unfold bareP; simp only [hb8, hb17, hb27, hk1, ↓reduceIte, or_true, true_or, or_self, Int.reduceEq, or_false, false_or] <;> (first | done | rfl))) (by show { (⟨none, 0, none, 0, none, 0, s.pa, s.pc⟩ : Sl) with wa := s.wa, wc := s.wc } = _; (try simp only [← Bool.not_eq_true, Bool.or_eq_true, Bool.and_eq_true, decide_eq_true_eq] at hb8 hb17 hb27 hk1); unfold ownSl; simp only [hb8, hb17, hb27, hk1, ↓reduceIte, or_true, true_or, or_self, Int.reduceEq, or_false, false_or] <;> (first | done | rfl))), H.k⟩)
  refine wp_skip (hK25 _ _ ?_)
  refine wp_seq_k (fun K30 hK30 => gx_region ?_)
  refine hz_do F rfl (ex_load rfl (F.e rfl) (gl_agg ((Pk.cells P14 s11)) rfl (ga_33 _) (gs_33 _) (fun i => H.cs 0 rfl i))) ?_; intro A F
  obtain ⟨W9, hr, hB, hk⟩ := gx_storeAgg (P := Tryz.prog) (S := 33) (c := (Pk.cells P14 s11)) _ (H.b.at_ (j := 1) rfl).1 (gs_33 _) rfl (pk_one _ _)
  refine hz_st (ex_store rfl (F.e rfl) (F.e rfl) hr) ?_; clear hr; replace H : Hp _ _ [_, _, _] := Hp.turn [_] H hk hB; clear hk hB
  refine wpList_nil (hK30 _ _ ?_)
  refine gx_ret ?_
  refine (show bodyPost _ Tryz.f146 RR Exit.ret _ _ from ?_)
  exact bodyPost_ret (fn := Tryz.f146) (gx_resc rfl (F.g 2 _ rfl) (gl_agg ((Pk.cells P14 s11)) rfl (ga_33 _) (gs_33 _) (fun i => H.cs 1 rfl i))) F.d (⟨by unfold Pk.val; exact congrArg (fun x => Ending.returned (.agg x)) (congr (congrArg Pk.cells (by show { { zk p.kind with clean := p.clean, keep := p.keep, props := p.props, client := p.client, hasWill := p.hasWill, hasUser := p.hasUser, hasPass := p.hasPass } with willQoS := p.willQoS, willRetain := p.willRetain, willProps := p.willProps, willTopic := p.willTopic, willLoad := p.willLoad } = _; (try simp only [← Bool.not_eq_true, Bool.or_eq_true, Bool.and_eq_true, decide_eq_true_eq] at hb8 hb17 hb27 hk1); unfold bareP; simp only [hb8, hb17, hb27, hk1, ↓reduceIte, or_true, true_or, or_self, Int.reduceEq, or_false, false_or] <;> (first | done | rfl))) (by show { (⟨none, 0, none, 0, none, 0, s.pa, s.pc⟩ : Sl) with wa := s.wa, wc := s.wc } = _; (try simp only [← Bool.not_eq_true, Bool.or_eq_true, Bool.and_eq_true, decide_eq_true_eq] at hb8 hb17 hb27 hk1); unfold ownSl; simp only [hb8, hb17, hb27, hk1, ↓reduceIte, or_true, true_or, or_self, Int.reduceEq, or_false, false_or] <;> (first | done | rfl))), H.k⟩)
 replace F := (((F.nil.cons (F.g 3 _ rfl)).cons (F.g 2 _ rfl)).cons (F.g 1 _ rfl))
 refine wp_skip (hK6 _ _ ?_)
 refine wp_seq_k (fun K31 hK31 => ?_)
 refine wp_seq_k (fun K32 hK32 => gx_region ?_)
 iterate 2 (refine zd ?_; intro A F)
 refine wpList_nil (hK32 _ _ ?_)
 refine zc (fun hb33 => ?_) (fun hb33 => ?_)
 ·skip
  refine gx_region ?_
  iterate 3 (refine zd ?_; intro A F)
  let P34 : Pk := { { zk p.kind with clean := p.clean, keep := p.keep, props := p.props, client := p.client, hasWill := p.hasWill, hasUser := p.hasUser, hasPass := p.hasPass } with user := p.user }
  refine zs [] ((Pk.cells P34 ((⟨none, 0, none, 0, none, 0, s.pa, s.pc⟩ : Sl)))) ?_; intro W H9 hk
  clear H hk; have H := H9; clear H9
  refine wpList_nil (hK31 _ _ ?_)
  refine wp_seq_k (fun K35 hK35 => ?_)
  refine wp_seq_k (fun K36 hK36 => gx_region ?_)
  iterate 2 (refine zd ?_; intro A F)
  refine wpList_nil (hK36 _ _ ?_)
  refine zc (fun hb37 => ?_) (fun hb37 => ?_)
  ·skip
   refine gx_region ?_
   iterate 3 (refine zd ?_; intro A F)
   let P38 : Pk := { P34 with pass := p.pass }
   refine zs [] ((Pk.cells P38 ((⟨none, 0, none, 0, none, 0, s.pa, s.pc⟩ : Sl)))) ?_; intro W H9 hk
   clear H hk; have H := H9; clear H9
   refine wpList_nil (hK35 _ _ ?_)
   refine wp_seq_k (fun K39 hK39 => gx_region ?_)
   refine hz_do F rfl (ex_load rfl (F.e rfl) (gl_agg ((Pk.cells P38 ((⟨none, 0, none, 0, none, 0, s.pa, s.pc⟩ : Sl)))) rfl (ga_33 _) (gs_33 _) (fun i => H.cs 0 rfl i))) ?_; intro A F
   obtain ⟨W9, hr, hB, hk⟩ := gx_storeAgg (P := Tryz.prog) (S := 33) (c := (Pk.cells P38 ((⟨none, 0, none, 0, none, 0, s.pa, s.pc⟩ : Sl)))) _ (H.b.at_ (j := 1) rfl).1 (gs_33 _) rfl (pk_one _ _)
   refine hz_st (ex_store rfl (F.e rfl) (F.e rfl) hr) ?_; clear hr; replace H : Hp _ _ [_, _, _] := Hp.turn [_] H hk hB; clear hk hB
   refine wpList_nil (hK39 _ _ ?_)
   refine gx_ret ?_
   refine (show bodyPost _ Tryz.f146 RR Exit.ret _ _ from ?_)
   exact bodyPost_ret (fn := Tryz.f146) (gx_resc rfl (F.g 2 _ rfl) (gl_agg ((Pk.cells P38 ((⟨none, 0, none, 0, none, 0, s.pa, s.pc⟩ : Sl)))) rfl (ga_33 _) (gs_33 _) (fun i => H.cs 1 rfl i))) F.d (⟨by unfold Pk.val; exact congrArg (fun x => Ending.returned (.agg x)) (congr (congrArg Pk.cells (by show { { zk p.kind with clean := p.clean, keep := p.keep, props := p.props, client := p.client, hasWill := p.hasWill, hasUser := p.hasUser, hasPass := p.hasPass } with user := p.user, pass := p.pass } = _; (try simp only [← Bool.not_eq_true, Bool.or_eq_true, Bool.and_eq_true, decide_eq_true_eq] at hb8 hb33 hb37 hk1); unfold bareP; simp only [hb8, hb33, hb37, hk1, ↓reduceIte, or_true, true_or, or_self, Int.reduceEq, or_false, false_or] <;> (first | done | rfl))) (by (try simp only [← Bool.not_eq_true, Bool.or_eq_true, Bool.and_eq_true, decide_eq_true_eq] at hb8 hb33 hb37 hk1); unfold ownSl; simp only [hb8, hb33, hb37, hk1, ↓reduceIte, or_true, true_or, or_self, Int.reduceEq, or_false, false_or] <;> (first | done | rfl))), H.k⟩)
  refine wp_skip (hK35 _ _ ?_)
  refine wp_seq_k (fun K40 hK40 => gx_region ?_)
  refine hz_do F rfl (ex_load rfl (F.e rfl) (gl_agg ((Pk.cells P34 ((⟨none, 0, none, 0, none, 0, s.pa, s.pc⟩ : Sl)))) rfl (ga_33 _) (gs_33 _) (fun i => H.cs 0 rfl i))) ?_; intro A F
  obtain ⟨W9, hr, hB, hk⟩ := gx_storeAgg (P := Tryz.prog) (S := 33) (c := (Pk.cells P34 ((⟨none, 0, none, 0, none, 0, s.pa, s.pc⟩ : Sl)))) _ (H.b.at_ (j := 1) rfl).1 (gs_33 _) rfl (pk_one _ _)
  refine hz_st (ex_store rfl (F.e rfl) (F.e rfl) hr) ?_; clear hr; replace H : Hp _ _ [_, _, _] := Hp.turn [_] H hk hB; clear hk hB
  refine wpList_nil (hK40 _ _ ?_)
  refine gx_ret ?_
  refine (show bodyPost _ Tryz.f146 RR Exit.ret _ _ from ?_)
  exact bodyPost_ret (fn := Tryz.f146) (gx_resc rfl (F.g 2 _ rfl) (gl_agg ((Pk.cells P34 ((⟨none, 0, none, 0, none, 0, s.pa, s.pc⟩ : Sl)))) rfl (ga_33 _) (gs_33 _) (fun i => H.cs 1 rfl i))) F.d (⟨by unfold Pk.val; exact congrArg (fun x => Ending.returned (.agg x)) (congr (congrArg Pk.cells (by show { { zk p.kind with clean := p.clean, keep := p.keep, props := p.props, client := p.client, hasWill := p.hasWill, hasUser := p.hasUser, hasPass := p.hasPass } with user := p.user } = _; (try simp only [← Bool.not_eq_true, Bool.or_eq_true, Bool.and_eq_true, decide_eq_true_eq] at hb8 hb33 hb37 hk1); unfold bareP; simp only [hb8, hb33, hb37, hk1, ↓reduceIte, or_true, true_or, or_self, Int.reduceEq, or_false, false_or] <;> (first | done | rfl))) (by (try simp only [← Bool.not_eq_true, Bool.or_eq_true, Bool.and_eq_true, decide_eq_true_eq] at hb8 hb33 hb37 hk1); unfold ownSl; simp only [hb8, hb33, hb37, hk1, ↓reduceIte, or_true, true_or, or_self, Int.reduceEq, or_false, false_or] <;> (first | done | rfl))), H.k⟩)
 refine wp_skip (hK31 _ _ ?_)
 refine wp_seq_k (fun K41 hK41 => ?_)
 refine wp_seq_k (fun K42 hK42 => gx_region ?_)
 iterate 2 (refine zd ?_; intro A F)
 refine wpList_nil (hK42 _ _ ?_)
 refine zc (fun hb43 => ?_) (fun hb43 => ?_)
 ·skip
  refine gx_region ?_
  iterate 3 (refine zd ?_; intro A F)
  let P44 : Pk := { { zk p.kind with clean := p.clean, keep := p.keep, props := p.props, client := p.client, hasWill := p.hasWill, hasUser := p.hasUser, hasPass := p.hasPass } with pass := p.pass }
  refine zs [] ((Pk.cells P44 ((⟨none, 0, none, 0, none, 0, s.pa, s.pc⟩ : Sl)))) ?_; intro W H9 hk
  clear H hk; have H := H9; clear H9
  refine wpList_nil (hK41 _ _ ?_)
  refine wp_seq_k (fun K45 hK45 => gx_region ?_)
  refine hz_do F rfl (ex_load rfl (F.e rfl) (gl_agg ((Pk.cells P44 ((⟨none, 0, none, 0, none, 0, s.pa, s.pc⟩ : Sl)))) rfl (ga_33 _) (gs_33 _) (fun i => H.cs 0 rfl i))) ?_; intro A F
  obtain ⟨W9, hr, hB, hk⟩ := gx_storeAgg (P := Tryz.prog) (S := 33) (c := (Pk.cells P44 ((⟨none, 0, none, 0, none, 0, s.pa, s.pc⟩ : Sl)))) _ (H.b.at_ (j := 1) rfl).1 (gs_33 _) rfl (pk_one _ _)
  refine hz_st (ex_store rfl (F.e rfl) (F.e rfl) hr) ?_; clear hr; replace H : Hp _ _ [_, _, _] := Hp.turn [_] H hk hB; clear hk hB
  refine wpList_nil (hK45 _ _ ?_)
  refine gx_ret ?_
  refine (show bodyPost _ Tryz.f146 RR Exit.ret _ _ from ?_)
  exact bodyPost_ret (fn := Tryz.f146) (gx_resc rfl (F.g 2 _ rfl) (gl_agg ((Pk.cells P44 ((⟨none, 0, none, 0, none, 0, s.pa, s.pc⟩ : Sl)))) rfl (ga_33 _) (gs_33 _) (fun i => H.cs 1 rfl i))) F.d (⟨by unfold Pk.val; exact congrArg (fun x => Ending.returned (.agg x)) (congr (congrArg Pk.cells (by show { { zk p.kind with clean := p.clean, keep := p.keep, props := p.props, client := p.client, hasWill := p.hasWill, hasUser := p.hasUser, hasPass := p.hasPass } with pass := p.pass } = _; (try simp only [← Bool.not_eq_true, Bool.or_eq_true, Bool.and_eq_true, decide_eq_true_eq] at hb8 hb33 hb43 hk1); unfold bareP; simp only [hb8, hb33, hb43, hk1, ↓reduceIte, or_true, true_or, or_self, Int.reduceEq, or_false, false_or] <;> (first | done | rfl))) (by (try simp only [← Bool.not_eq_true, Bool.or_eq_true, Bool.and_eq_true, decide_eq_true_eq] at hb8 hb33 hb43 hk1); unfold ownSl; simp only [hb8, hb33, hb43, hk1, ↓reduceIte, or_true, true_or, or_self, Int.reduceEq, or_false, false_or] <;> (first | done | rfl))), H.k⟩)
 refine wp_skip (hK41 _ _ ?_)
 refine wp_seq_k (fun K46 hK46 => gx_region ?_)
 refine hz_do F rfl (ex_load rfl (F.e rfl) (gl_agg ((Pk.cells ({ zk p.kind with clean := p.clean, keep := p.keep, props := p.props, client := p.client, hasWill := p.hasWill, hasUser := p.hasUser, hasPass := p.hasPass }) ((⟨none, 0, none, 0, none, 0, s.pa, s.pc⟩ : Sl)))) rfl (ga_33 _) (gs_33 _) (fun i => H.cs 0 rfl i))) ?_; intro A F
 obtain ⟨W9, hr, hB, hk⟩ := gx_storeAgg (P := Tryz.prog) (S := 33) (c := (Pk.cells ({ zk p.kind with clean := p.clean, keep := p.keep, props := p.props, client := p.client, hasWill := p.hasWill, hasUser := p.hasUser, hasPass := p.hasPass }) ((⟨none, 0, none, 0, none, 0, s.pa, s.pc⟩ : Sl)))) _ (H.b.at_ (j := 1) rfl).1 (gs_33 _) rfl (pk_one _ _)
 refine hz_st (ex_store rfl (F.e rfl) (F.e rfl) hr) ?_; clear hr; replace H : Hp _ _ [_, _, _] := Hp.turn [_] H hk hB; clear hk hB
 refine wpList_nil (hK46 _ _ ?_)
 refine gx_ret ?_
 refine (show bodyPost _ Tryz.f146 RR Exit.ret _ _ from ?_)
 exact bodyPost_ret (fn := Tryz.f146) (gx_resc rfl (F.g 2 _ rfl) (gl_agg ((Pk.cells ({ zk p.kind with clean := p.clean, keep := p.keep, props := p.props, client := p.client, hasWill := p.hasWill, hasUser := p.hasUser, hasPass := p.hasPass }) ((⟨none, 0, none, 0, none, 0, s.pa, s.pc⟩ : Sl)))) rfl (ga_33 _) (gs_33 _) (fun i => H.cs 1 rfl i))) F.d (⟨by unfold Pk.val; exact congrArg (fun x => Ending.returned (.agg x)) (congr (congrArg Pk.cells (by (try simp only [← Bool.not_eq_true, Bool.or_eq_true, Bool.and_eq_true, decide_eq_true_eq] at hb8 hb33 hb43 hk1); unfold bareP; simp only [hb8, hb33, hb43, hk1, ↓reduceIte, or_true, true_or, or_self, Int.reduceEq, or_false, false_or] <;> (first | done | rfl))) (by (try simp only [← Bool.not_eq_true, Bool.or_eq_true, Bool.and_eq_true, decide_eq_true_eq] at hb8 hb33 hb43 hk1); unfold ownSl; simp only [hb8, hb33, hb43, hk1, ↓reduceIte, or_true, true_or, or_self, Int.reduceEq, or_false, false_or] <;> (first | done | rfl))), H.k⟩)
set_option maxHeartbeats 1000000 in
theorem own_any (p : Pk) (s : Sl) (w : World) (hp : p.At s w) :
  Calls Tryz.prog 109 #[p.val s] w fun e w' => e = .returned (Pk.val (bareP p) (ownSl p s)) ∧ Kept No w w' := by
 let RR : Ending → World → Prop := fun e w' => e = .returned (Pk.val (bareP p) (ownSl p s)) ∧ Kept No w w'
 go_enter Tryz.func109, Tryz.ntmps109
 generalize hA : ({ tmps := _, defers := [] } : Act) = A
 have F : Fr A 90 [(0, (Pk.val p s))] := by rw [← hA]; exact (Fr.cons (i := 0) (v := (Pk.val p s)) (Fr.nil0 rfl rfl) rfl)
 clear hA; have H := Hp.start w
 refine wp_seq_k (fun K1 hK1 => gx_region ?_)
 refine hz_new (c := (Pk.cells p s)) (t := 33) F H rfl (ex_box rfl (F.e rfl) (gx_box _ _)) ?_; clear F A; intro b2 W A hk hN H9 F; clear H; have H := H9; clear H9
 clear hk hN
 refine hz_new (c := zeroPk) (t := 33) F H rfl (ex_alloc rfl (al_33 _)) ?_; clear F A; intro b3 W A hk hN H9 F; clear H; have H := H9; clear H9
 clear hk hN
 refine wpList_nil (hK1 _ _ ?_)
 refine wp_seq_k (fun K4 hK4 => ?_)
 refine wp_seq_k (fun K5 hK5 => gx_region ?_)
 iterate 2 (refine zd ?_; intro A F)
 refine wpList_nil (hK5 _ _ ?_)
 refine wp_block ?_
 refine wp_seq_k (fun K6 hK6 => gx_region ?_)
 refine zb (rn_eql) ?_; intro A F
 refine zd ?_; intro A F
 refine wpList_nil (hK6 _ _ ?_)
 refine zc (fun hb7 => ?_) (fun hb7 => ?_)
 ·skip
  refine wp_seq_k (fun K8 hK8 => gx_region ?_)
  refine hz_do F rfl (ex_load rfl (F.e rfl) (gl_agg ((Pk.cells p s)) rfl (ga_33 _) (gs_33 _) (fun i => H.cs 1 rfl i))) ?_; intro A F
  refine hz_callk F H rfl (ex_call rfl rfl (gx_l1 (F.e rfl) gx_l0) fn_146) (ownConnect_any p s _ (hp.kept H.k) (by simpa using hb7)) ?_; clear F H A; intro W A hk H F
  clear hk
  obtain ⟨W9, hr, hB, hk⟩ := gx_storeAgg (P := Tryz.prog) (S := 33) (c := (Pk.cells ((bareP p)) ((ownSl p s)))) _ (H.b.at_ (j := 0) rfl).1 (gs_33 _) rfl (pk_one _ _)
  refine hz_st (ex_store rfl (F.e rfl) (F.e rfl) hr) ?_; clear hr; replace H : Hp _ _ [_, _] := Hp.turn [] H hk hB; clear hk hB
  refine wpList_nil (hK8 _ _ ?_)
  refine gx_ret ?_
  refine (show bodyPost _ Tryz.f109 RR Exit.ret _ _ from ?_)
  exact bodyPost_ret (fn := Tryz.f109) (gx_resc rfl (F.g 2 _ rfl) (gl_agg ((Pk.cells ((bareP p)) ((ownSl p s)))) rfl (ga_33 _) (gs_33 _) (fun i => H.cs 0 rfl i))) F.d (⟨rfl, H.k⟩)
 refine wp_seq_k (fun K10 hK10 => gx_region ?_)
 refine zb (rn_eql) ?_; intro A F
 refine zd ?_; intro A F
 refine wpList_nil (hK10 _ _ ?_)
 refine zc (fun hb11 => ?_) (fun hb11 => ?_)
 ·skip
  refine wp_seq_k (fun K12 hK12 => gx_region ?_)
  iterate 8 (refine zd ?_; intro A F)
  refine hz_do (v := (Pk.val ({ zk p.kind with present := p.present, code := p.code, props := p.props }) ((⟨none, 0, none, 0, none, 0, s.pa, s.pc⟩ : Sl)))) F rfl (ex_build rfl (gx_p1 (F.e rfl) (gx_p1 (F.e rfl) (gx_p1 (F.e rfl) (gx_p1 (F.e rfl) gx_p0)))) (by kernel_rfl)) ?_; intro A F
  obtain ⟨W9, hr, hB, hk⟩ := gx_storeAgg (P := Tryz.prog) (S := 33) (c := (Pk.cells ({ zk p.kind with present := p.present, code := p.code, props := p.props }) ((⟨none, 0, none, 0, none, 0, s.pa, s.pc⟩ : Sl)))) _ (H.b.at_ (j := 0) rfl).1 (gs_33 _) rfl (pk_one _ _)
  refine hz_st (ex_store rfl (F.e rfl) (F.e rfl) hr) ?_; clear hr; replace H : Hp _ _ [_, _] := Hp.turn [] H hk hB; clear hk hB
  refine wpList_nil (hK12 _ _ ?_)
  refine gx_ret ?_
  refine (show bodyPost _ Tryz.f109 RR Exit.ret _ _ from ?_)
  exact bodyPost_ret (fn := Tryz.f109) (gx_resc rfl (F.g 2 _ rfl) (gl_agg ((Pk.cells ({ zk p.kind with present := p.present, code := p.code, props := p.props }) ((⟨none, 0, none, 0, none, 0, s.pa, s.pc⟩ : Sl)))) rfl (ga_33 _) (gs_33 _) (fun i => H.cs 0 rfl i))) F.d (⟨by unfold Pk.val; exact congrArg (fun x => Ending.returned (.agg x)) (congr (congrArg Pk.cells (by (try simp only [← Bool.not_eq_true, Bool.or_eq_true, Bool.and_eq_true, decide_eq_true_eq] at hb7 hb11); unfold bareP; simp only [hb7, hb11, ↓reduceIte, or_true, true_or, or_self, Int.reduceEq, or_false, false_or] <;> (first | done | rfl))) (by (try simp only [← Bool.not_eq_true, Bool.or_eq_true, Bool.and_eq_true, decide_eq_true_eq] at hb7 hb11); unfold ownSl; simp only [hb7, hb11, ↓reduceIte, or_true, true_or, or_self, Int.reduceEq, or_false, false_or] <;> (first | done | rfl))), H.k⟩)
 refine wp_seq_k (fun K13 hK13 => gx_region ?_)
 refine zb (rn_eql) ?_; intro A F
 refine zd ?_; intro A F
 refine wpList_nil (hK13 _ _ ?_)
 refine zc (fun hb14 => ?_) (fun hb14 => ?_)
 ·skip
  refine wp_seq_k (fun K15 hK15 => gx_region ?_)
  iterate 16 (refine zd ?_; intro A F)
  refine hz_do (v := (Pk.val ({ zk p.kind with dup := p.dup, qos := p.qos, retain := p.retain, topic := p.topic, id := p.id, props := p.props, load := p.load }) ((⟨none, 0, none, 0, none, 0, s.pa, s.pc⟩ : Sl)))) F rfl (ex_build rfl (gx_p1 (F.e rfl) (gx_p1 (F.e rfl) (gx_p1 (F.e rfl) (gx_p1 (F.e rfl) (gx_p1 (F.e rfl) (gx_p1 (F.e rfl) (gx_p1 (F.e rfl) (gx_p1 (F.e rfl) gx_p0)))))))) (by kernel_rfl)) ?_; intro A F
  obtain ⟨W9, hr, hB, hk⟩ := gx_storeAgg (P := Tryz.prog) (S := 33) (c := (Pk.cells ({ zk p.kind with dup := p.dup, qos := p.qos, retain := p.retain, topic := p.topic, id := p.id, props := p.props, load := p.load }) ((⟨none, 0, none, 0, none, 0, s.pa, s.pc⟩ : Sl)))) _ (H.b.at_ (j := 0) rfl).1 (gs_33 _) rfl (pk_one _ _)
  refine hz_st (ex_store rfl (F.e rfl) (F.e rfl) hr) ?_; clear hr; replace H : Hp _ _ [_, _] := Hp.turn [] H hk hB; clear hk hB
  refine wpList_nil (hK15 _ _ ?_)
  refine gx_ret ?_
  refine (show bodyPost _ Tryz.f109 RR Exit.ret _ _ from ?_)
  exact bodyPost_ret (fn := Tryz.f109) (gx_resc rfl (F.g 2 _ rfl) (gl_agg ((Pk.cells ({ zk p.kind with dup := p.dup, qos := p.qos, retain := p.retain, topic := p.topic, id := p.id, props := p.props, load := p.load }) ((⟨none, 0, none, 0, none, 0, s.pa, s.pc⟩ : Sl)))) rfl (ga_33 _) (gs_33 _) (fun i => H.cs 0 rfl i))) F.d (⟨by unfold Pk.val; exact congrArg (fun x => Ending.returned (.agg x)) (congr (congrArg Pk.cells (by (try simp only [← Bool.not_eq_true, Bool.or_eq_true, Bool.and_eq_true, decide_eq_true_eq] at hb7 hb11 hb14); unfold bareP; simp only [hb7, hb11, hb14, ↓reduceIte, or_true, true_or, or_self, Int.reduceEq, or_false, false_or] <;> (first | done | rfl))) (by (try simp only [← Bool.not_eq_true, Bool.or_eq_true, Bool.and_eq_true, decide_eq_true_eq] at hb7 hb11 hb14); unfold ownSl; simp only [hb7, hb11, hb14, ↓reduceIte, or_true, true_or, or_self, Int.reduceEq, or_false, false_or] <;> (first | done | rfl))), H.k⟩)
 refine wp_seq_k (fun K16 hK16 => ?_)
 refine wp_seq_k (fun K17 hK17 => gx_region ?_)
 refine zb (rn_eql) ?_; intro A F
 refine zd ?_; intro A F
 refine wpList_nil (hK17 _ _ ?_)
 refine zc (fun hb18 => ?_) (fun hb18 => ?_)
 ·skip
  refine wp_skip (hK16 _ _ ?_)
  refine wp_cond_true ((F.e rfl).trans (congrArg Value.bool hb18)) ?_
  refine wp_seq_k (fun K19 hK19 => gx_region ?_)
  iterate 8 (refine zd ?_; intro A F)
  refine hz_do (v := (Pk.val ({ zk p.kind with id := p.id, code := p.code, props := p.props }) ((⟨none, 0, none, 0, none, 0, s.pa, s.pc⟩ : Sl)))) F rfl (ex_build rfl (gx_p1 (F.e rfl) (gx_p1 (F.e rfl) (gx_p1 (F.e rfl) (gx_p1 (F.e rfl) gx_p0)))) (by kernel_rfl)) ?_; intro A F
  obtain ⟨W9, hr, hB, hk⟩ := gx_storeAgg (P := Tryz.prog) (S := 33) (c := (Pk.cells ({ zk p.kind with id := p.id, code := p.code, props := p.props }) ((⟨none, 0, none, 0, none, 0, s.pa, s.pc⟩ : Sl)))) _ (H.b.at_ (j := 0) rfl).1 (gs_33 _) rfl (pk_one _ _)
  refine hz_st (ex_store rfl (F.e rfl) (F.e rfl) hr) ?_; clear hr; replace H : Hp _ _ [_, _] := Hp.turn [] H hk hB; clear hk hB
  refine wpList_nil (hK19 _ _ ?_)
  refine gx_ret ?_
  refine (show bodyPost _ Tryz.f109 RR Exit.ret _ _ from ?_)
  exact bodyPost_ret (fn := Tryz.f109) (gx_resc rfl (F.g 2 _ rfl) (gl_agg ((Pk.cells ({ zk p.kind with id := p.id, code := p.code, props := p.props }) ((⟨none, 0, none, 0, none, 0, s.pa, s.pc⟩ : Sl)))) rfl (ga_33 _) (gs_33 _) (fun i => H.cs 0 rfl i))) F.d (⟨by unfold Pk.val; exact congrArg (fun x => Ending.returned (.agg x)) (congr (congrArg Pk.cells (by (try simp only [← Bool.not_eq_true, Bool.or_eq_true, Bool.and_eq_true, decide_eq_true_eq] at hb7 hb11 hb14 hb18); unfold bareP; simp only [hb7, hb11, hb14, hb18, ↓reduceIte, or_true, true_or, or_self, Int.reduceEq, or_false, false_or] <;> (first | done | rfl))) (by (try simp only [← Bool.not_eq_true, Bool.or_eq_true, Bool.and_eq_true, decide_eq_true_eq] at hb7 hb11 hb14 hb18); unfold ownSl; simp only [hb7, hb11, hb14, hb18, ↓reduceIte, or_true, true_or, or_self, Int.reduceEq, or_false, false_or] <;> (first | done | rfl))), H.k⟩)
 refine wp_seq_k (fun K20 hK20 => gx_region ?_)
 refine zb (rn_eql) ?_; intro A F
 refine zd ?_; intro A F
 refine wpList_nil (hK20 _ _ ?_)
 refine zc (fun hb21 => ?_) (fun hb21 => ?_)
 ·skip
  refine wp_skip (hK16 _ _ ?_)
  refine wp_cond_true ((F.e rfl).trans (congrArg Value.bool hb21)) ?_
  refine wp_seq_k (fun K22 hK22 => gx_region ?_)
  iterate 8 (refine zd ?_; intro A F)
  refine hz_do (v := (Pk.val ({ zk p.kind with id := p.id, code := p.code, props := p.props }) ((⟨none, 0, none, 0, none, 0, s.pa, s.pc⟩ : Sl)))) F rfl (ex_build rfl (gx_p1 (F.e rfl) (gx_p1 (F.e rfl) (gx_p1 (F.e rfl) (gx_p1 (F.e rfl) gx_p0)))) (by kernel_rfl)) ?_; intro A F
  obtain ⟨W9, hr, hB, hk⟩ := gx_storeAgg (P := Tryz.prog) (S := 33) (c := (Pk.cells ({ zk p.kind with id := p.id, code := p.code, props := p.props }) ((⟨none, 0, none, 0, none, 0, s.pa, s.pc⟩ : Sl)))) _ (H.b.at_ (j := 0) rfl).1 (gs_33 _) rfl (pk_one _ _)
  refine hz_st (ex_store rfl (F.e rfl) (F.e rfl) hr) ?_; clear hr; replace H : Hp _ _ [_, _] := Hp.turn [] H hk hB; clear hk hB
  refine wpList_nil (hK22 _ _ ?_)
  refine gx_ret ?_
  refine (show bodyPost _ Tryz.f109 RR Exit.ret _ _ from ?_)
  exact bodyPost_ret (fn := Tryz.f109) (gx_resc rfl (F.g 2 _ rfl) (gl_agg ((Pk.cells ({ zk p.kind with id := p.id, code := p.code, props := p.props }) ((⟨none, 0, none, 0, none, 0, s.pa, s.pc⟩ : Sl)))) rfl (ga_33 _) (gs_33 _) (fun i => H.cs 0 rfl i))) F.d (⟨by unfold Pk.val; exact congrArg (fun x => Ending.returned (.agg x)) (congr (congrArg Pk.cells (by (try simp only [← Bool.not_eq_true, Bool.or_eq_true, Bool.and_eq_true, decide_eq_true_eq] at hb7 hb11 hb14 hb18 hb21); unfold bareP; simp only [hb7, hb11, hb14, hb18, hb21, ↓reduceIte, or_true, true_or, or_self, Int.reduceEq, or_false, false_or] <;> (first | done | rfl))) (by (try simp only [← Bool.not_eq_true, Bool.or_eq_true, Bool.and_eq_true, decide_eq_true_eq] at hb7 hb11 hb14 hb18 hb21); unfold ownSl; simp only [hb7, hb11, hb14, hb18, hb21, ↓reduceIte, or_true, true_or, or_self, Int.reduceEq, or_false, false_or] <;> (first | done | rfl))), H.k⟩)
 refine wp_seq_k (fun K23 hK23 => gx_region ?_)
 refine zb (rn_eql) ?_; intro A F
 refine zd ?_; intro A F
 refine wpList_nil (hK23 _ _ ?_)
 refine zc (fun hb24 => ?_) (fun hb24 => ?_)
 ·skip
  refine wp_skip (hK16 _ _ ?_)
  refine wp_cond_true ((F.e rfl).trans (congrArg Value.bool hb24)) ?_
  replace F := (((F.nil.cons (F.g 4 _ rfl)).cons (F.g 2 _ rfl)).cons (F.g 1 _ rfl))
  refine wp_seq_k (fun K25 hK25 => gx_region ?_)
  iterate 8 (refine zd ?_; intro A F)
  refine hz_do (v := (Pk.val ({ zk p.kind with id := p.id, code := p.code, props := p.props }) ((⟨none, 0, none, 0, none, 0, s.pa, s.pc⟩ : Sl)))) F rfl (ex_build rfl (gx_p1 (F.e rfl) (gx_p1 (F.e rfl) (gx_p1 (F.e rfl) (gx_p1 (F.e rfl) gx_p0)))) (by kernel_rfl)) ?_; intro A F
  obtain ⟨W9, hr, hB, hk⟩ := gx_storeAgg (P := Tryz.prog) (S := 33) (c := (Pk.cells ({ zk p.kind with id := p.id, code := p.code, props := p.props }) ((⟨none, 0, none, 0, none, 0, s.pa, s.pc⟩ : Sl)))) _ (H.b.at_ (j := 0) rfl).1 (gs_33 _) rfl (pk_one _ _)
  refine hz_st (ex_store rfl (F.e rfl) (F.e rfl) hr) ?_; clear hr; replace H : Hp _ _ [_, _] := Hp.turn [] H hk hB; clear hk hB
  refine wpList_nil (hK25 _ _ ?_)
  refine gx_ret ?_
  refine (show bodyPost _ Tryz.f109 RR Exit.ret _ _ from ?_)
  exact bodyPost_ret (fn := Tryz.f109) (gx_resc rfl (F.g 2 _ rfl) (gl_agg ((Pk.cells ({ zk p.kind with id := p.id, code := p.code, props := p.props }) ((⟨none, 0, none, 0, none, 0, s.pa, s.pc⟩ : Sl)))) rfl (ga_33 _) (gs_33 _) (fun i => H.cs 0 rfl i))) F.d (⟨by unfold Pk.val; exact congrArg (fun x => Ending.returned (.agg x)) (congr (congrArg Pk.cells (by (try simp only [← Bool.not_eq_true, Bool.or_eq_true, Bool.and_eq_true, decide_eq_true_eq] at hb7 hb11 hb14 hb18 hb21 hb24); unfold bareP; simp only [hb7, hb11, hb14, hb18, hb21, hb24, ↓reduceIte, or_true, true_or, or_self, Int.reduceEq, or_false, false_or] <;> (first | done | rfl))) (by (try simp only [← Bool.not_eq_true, Bool.or_eq_true, Bool.and_eq_true, decide_eq_true_eq] at hb7 hb11 hb14 hb18 hb21 hb24); unfold ownSl; simp only [hb7, hb11, hb14, hb18, hb21, hb24, ↓reduceIte, or_true, true_or, or_self, Int.reduceEq, or_false, false_or] <;> (first | done | rfl))), H.k⟩)
 refine gx_region ?_
 refine zb (rn_eql) ?_; intro A F
 refine zd ?_; intro A F
 refine wpList_nil (hK16 _ _ ?_)
 refine zc (fun hb26 => ?_) (fun hb26 => ?_)
 ·skip
  replace F := (((F.nil.cons (F.g 4 _ rfl)).cons (F.g 2 _ rfl)).cons (F.g 1 _ rfl))
  refine wp_seq_k (fun K27 hK27 => gx_region ?_)
  iterate 8 (refine zd ?_; intro A F)
  refine hz_do (v := (Pk.val ({ zk p.kind with id := p.id, code := p.code, props := p.props }) ((⟨none, 0, none, 0, none, 0, s.pa, s.pc⟩ : Sl)))) F rfl (ex_build rfl (gx_p1 (F.e rfl) (gx_p1 (F.e rfl) (gx_p1 (F.e rfl) (gx_p1 (F.e rfl) gx_p0)))) (by kernel_rfl)) ?_; intro A F
  obtain ⟨W9, hr, hB, hk⟩ := gx_storeAgg (P := Tryz.prog) (S := 33) (c := (Pk.cells ({ zk p.kind with id := p.id, code := p.code, props := p.props }) ((⟨none, 0, none, 0, none, 0, s.pa, s.pc⟩ : Sl)))) _ (H.b.at_ (j := 0) rfl).1 (gs_33 _) rfl (pk_one _ _)
  refine hz_st (ex_store rfl (F.e rfl) (F.e rfl) hr) ?_; clear hr; replace H : Hp _ _ [_, _] := Hp.turn [] H hk hB; clear hk hB
  refine wpList_nil (hK27 _ _ ?_)
  refine gx_ret ?_
  refine (show bodyPost _ Tryz.f109 RR Exit.ret _ _ from ?_)
  exact bodyPost_ret (fn := Tryz.f109) (gx_resc rfl (F.g 2 _ rfl) (gl_agg ((Pk.cells ({ zk p.kind with id := p.id, code := p.code, props := p.props }) ((⟨none, 0, none, 0, none, 0, s.pa, s.pc⟩ : Sl)))) rfl (ga_33 _) (gs_33 _) (fun i => H.cs 0 rfl i))) F.d (⟨by unfold Pk.val; exact congrArg (fun x => Ending.returned (.agg x)) (congr (congrArg Pk.cells (by (try simp only [← Bool.not_eq_true, Bool.or_eq_true, Bool.and_eq_true, decide_eq_true_eq] at hb7 hb11 hb14 hb18 hb21 hb24 hb26); unfold bareP; simp only [hb7, hb11, hb14, hb18, hb21, hb24, hb26, ↓reduceIte, or_true, true_or, or_self, Int.reduceEq, or_false, false_or] <;> (first | done | rfl))) (by (try simp only [← Bool.not_eq_true, Bool.or_eq_true, Bool.and_eq_true, decide_eq_true_eq] at hb7 hb11 hb14 hb18 hb21 hb24 hb26); unfold ownSl; simp only [hb7, hb11, hb14, hb18, hb21, hb24, hb26, ↓reduceIte, or_true, true_or, or_self, Int.reduceEq, or_false, false_or] <;> (first | done | rfl))), H.k⟩)
 replace F := (((F.nil.cons (F.g 4 _ rfl)).cons (F.g 2 _ rfl)).cons (F.g 1 _ rfl))
 refine wp_seq_k (fun K28 hK28 => ?_)
 refine wp_seq_k (fun K29 hK29 => gx_region ?_)
 refine zb (rn_eql) ?_; intro A F
 refine zd ?_; intro A F
 refine wpList_nil (hK29 _ _ ?_)
 refine zc (fun hb30 => ?_) (fun hb30 => ?_)
 ·skip
  refine wp_skip (hK28 _ _ ?_)
  refine wp_cond_true ((F.e rfl).trans (congrArg Value.bool hb30)) ?_
  refine wp_seq_k (fun K31 hK31 => gx_region ?_)
  iterate 8 (refine zd ?_; intro A F)
  refine hz_do (v := (Pk.val ({ zk p.kind with id := p.id, props := p.props, filters := p.filters }) ((⟨none, 0, s.fa, s.fc, none, 0, s.pa, s.pc⟩ : Sl)))) F rfl (ex_build rfl (gx_p1 (F.e rfl) (gx_p1 (F.e rfl) (gx_p1 (F.e rfl) (gx_p1 (F.e rfl) gx_p0)))) (by kernel_rfl)) ?_; intro A F
  obtain ⟨W9, hr, hB, hk⟩ := gx_storeAgg (P := Tryz.prog) (S := 33) (c := (Pk.cells ({ zk p.kind with id := p.id, props := p.props, filters := p.filters }) ((⟨none, 0, s.fa, s.fc, none, 0, s.pa, s.pc⟩ : Sl)))) _ (H.b.at_ (j := 0) rfl).1 (gs_33 _) rfl (pk_one _ _)
  refine hz_st (ex_store rfl (F.e rfl) (F.e rfl) hr) ?_; clear hr; replace H : Hp _ _ [_, _] := Hp.turn [] H hk hB; clear hk hB
  refine wpList_nil (hK31 _ _ ?_)
  refine gx_ret ?_
  refine (show bodyPost _ Tryz.f109 RR Exit.ret _ _ from ?_)
  exact bodyPost_ret (fn := Tryz.f109) (gx_resc rfl (F.g 2 _ rfl) (gl_agg ((Pk.cells ({ zk p.kind with id := p.id, props := p.props, filters := p.filters }) ((⟨none, 0, s.fa, s.fc, none, 0, s.pa, s.pc⟩ : Sl)))) rfl (ga_33 _) (gs_33 _) (fun i => H.cs 0 rfl i))) F.d (⟨by unfold Pk.val; exact congrArg (fun x => Ending.returned (.agg x)) (congr (congrArg Pk.cells (by (try simp only [← Bool.not_eq_true, Bool.or_eq_true, Bool.and_eq_true, decide_eq_true_eq] at hb7 hb11 hb14 hb18 hb21 hb24 hb26 hb30); unfold bareP; simp only [hb7, hb11, hb14, hb18, hb21, hb24, hb26, hb30, ↓reduceIte, or_true, true_or, or_self, Int.reduceEq, or_false, false_or] <;> (first | done | rfl))) (by (try simp only [← Bool.not_eq_true, Bool.or_eq_true, Bool.and_eq_true, decide_eq_true_eq] at hb7 hb11 hb14 hb18 hb21 hb24 hb26 hb30); unfold ownSl; simp only [hb7, hb11, hb14, hb18, hb21, hb24, hb26, hb30, ↓reduceIte, or_true, true_or, or_self, Int.reduceEq, or_false, false_or] <;> (first | done | rfl))), H.k⟩)
 refine gx_region ?_
 refine zb (rn_eql) ?_; intro A F
 refine zd ?_; intro A F
 refine wpList_nil (hK28 _ _ ?_)
 refine zc (fun hb32 => ?_) (fun hb32 => ?_)
 ·skip
  refine wp_seq_k (fun K33 hK33 => gx_region ?_)
  iterate 8 (refine zd ?_; intro A F)
  refine hz_do (v := (Pk.val ({ zk p.kind with id := p.id, props := p.props, filters := p.filters }) ((⟨none, 0, s.fa, s.fc, none, 0, s.pa, s.pc⟩ : Sl)))) F rfl (ex_build rfl (gx_p1 (F.e rfl) (gx_p1 (F.e rfl) (gx_p1 (F.e rfl) (gx_p1 (F.e rfl) gx_p0)))) (by kernel_rfl)) ?_; intro A F
  obtain ⟨W9, hr, hB, hk⟩ := gx_storeAgg (P := Tryz.prog) (S := 33) (c := (Pk.cells ({ zk p.kind with id := p.id, props := p.props, filters := p.filters }) ((⟨none, 0, s.fa, s.fc, none, 0, s.pa, s.pc⟩ : Sl)))) _ (H.b.at_ (j := 0) rfl).1 (gs_33 _) rfl (pk_one _ _)
  refine hz_st (ex_store rfl (F.e rfl) (F.e rfl) hr) ?_; clear hr; replace H : Hp _ _ [_, _] := Hp.turn [] H hk hB; clear hk hB
  refine wpList_nil (hK33 _ _ ?_)
  refine gx_ret ?_
  refine (show bodyPost _ Tryz.f109 RR Exit.ret _ _ from ?_)
  exact bodyPost_ret (fn := Tryz.f109) (gx_resc rfl (F.g 2 _ rfl) (gl_agg ((Pk.cells ({ zk p.kind with id := p.id, props := p.props, filters := p.filters }) ((⟨none, 0, s.fa, s.fc, none, 0, s.pa, s.pc⟩ : Sl)))) rfl (ga_33 _) (gs_33 _) (fun i => H.cs 0 rfl i))) F.d (⟨by unfold Pk.val; exact congrArg (fun x => Ending.returned (.agg x)) (congr (congrArg Pk.cells (by (try simp only [← Bool.not_eq_true, Bool.or_eq_true, Bool.and_eq_true, decide_eq_true_eq] at hb7 hb11 hb14 hb18 hb21 hb24 hb26 hb30 hb32); unfold bareP; simp only [hb7, hb11, hb14, hb18, hb21, hb24, hb26, hb30, hb32, ↓reduceIte, or_true, true_or, or_self, Int.reduceEq, or_false, false_or] <;> (first | done | rfl))) (by (try simp only [← Bool.not_eq_true, Bool.or_eq_true, Bool.and_eq_true, decide_eq_true_eq] at hb7 hb11 hb14 hb18 hb21 hb24 hb26 hb30 hb32); unfold ownSl; simp only [hb7, hb11, hb14, hb18, hb21, hb24, hb26, hb30, hb32, ↓reduceIte, or_true, true_or, or_self, Int.reduceEq, or_false, false_or] <;> (first | done | rfl))), H.k⟩)
 refine wp_seq_k (fun K34 hK34 => ?_)
 refine wp_seq_k (fun K35 hK35 => gx_region ?_)
 refine zb (rn_eql) ?_; intro A F
 refine zd ?_; intro A F
 refine wpList_nil (hK35 _ _ ?_)
 refine zc (fun hb36 => ?_) (fun hb36 => ?_)
 ·skip
  refine wp_skip (hK34 _ _ ?_)
  refine wp_cond_true ((F.e rfl).trans (congrArg Value.bool hb36)) ?_
  refine wp_seq_k (fun K37 hK37 => gx_region ?_)
  iterate 8 (refine zd ?_; intro A F)
  refine hz_do (v := (Pk.val ({ zk p.kind with id := p.id, props := p.props, codes := p.codes }) ((⟨none, 0, none, 0, s.ca, s.cc, s.pa, s.pc⟩ : Sl)))) F rfl (ex_build rfl (gx_p1 (F.e rfl) (gx_p1 (F.e rfl) (gx_p1 (F.e rfl) (gx_p1 (F.e rfl) gx_p0)))) (by kernel_rfl)) ?_; intro A F
  obtain ⟨W9, hr, hB, hk⟩ := gx_storeAgg (P := Tryz.prog) (S := 33) (c := (Pk.cells ({ zk p.kind with id := p.id, props := p.props, codes := p.codes }) ((⟨none, 0, none, 0, s.ca, s.cc, s.pa, s.pc⟩ : Sl)))) _ (H.b.at_ (j := 0) rfl).1 (gs_33 _) rfl (pk_one _ _)
  refine hz_st (ex_store rfl (F.e rfl) (F.e rfl) hr) ?_; clear hr; replace H : Hp _ _ [_, _] := Hp.turn [] H hk hB; clear hk hB
  refine wpList_nil (hK37 _ _ ?_)
  refine gx_ret ?_
  refine (show bodyPost _ Tryz.f109 RR Exit.ret _ _ from ?_)
  exact bodyPost_ret (fn := Tryz.f109) (gx_resc rfl (F.g 2 _ rfl) (gl_agg ((Pk.cells ({ zk p.kind with id := p.id, props := p.props, codes := p.codes }) ((⟨none, 0, none, 0, s.ca, s.cc, s.pa, s.pc⟩ : Sl)))) rfl (ga_33 _) (gs_33 _) (fun i => H.cs 0 rfl i))) F.d (⟨by unfold Pk.val; exact congrArg (fun x => Ending.returned (.agg x)) (congr (congrArg Pk.cells (by (try simp only [← Bool.not_eq_true, Bool.or_eq_true, Bool.and_eq_true, decide_eq_true_eq] at hb7 hb11 hb14 hb18 hb21 hb24 hb26 hb30 hb32 hb36); unfold bareP; simp only [hb7, hb11, hb14, hb18, hb21, hb24, hb26, hb30, hb32, hb36, ↓reduceIte, or_true, true_or, or_self, Int.reduceEq, or_false, false_or] <;> (first | done | rfl))) (by (try simp only [← Bool.not_eq_true, Bool.or_eq_true, Bool.and_eq_true, decide_eq_true_eq] at hb7 hb11 hb14 hb18 hb21 hb24 hb26 hb30 hb32 hb36); unfold ownSl; simp only [hb7, hb11, hb14, hb18, hb21, hb24, hb26, hb30, hb32, hb36, ↓reduceIte, or_true, true_or, or_self, Int.reduceEq, or_false, false_or] <;> (first | done | rfl))), H.k⟩)
 refine gx_region ?_
 refine zb (rn_eql) ?_; intro A F
 refine zd ?_; intro A F
 refine wpList_nil (hK34 _ _ ?_)
 refine zc (fun hb38 => ?_) (fun hb38 => ?_)
 ·skip
  refine wp_seq_k (fun K39 hK39 => gx_region ?_)
  iterate 8 (refine zd ?_; intro A F)
  refine hz_do (v := (Pk.val ({ zk p.kind with id := p.id, props := p.props, codes := p.codes }) ((⟨none, 0, none, 0, s.ca, s.cc, s.pa, s.pc⟩ : Sl)))) F rfl (ex_build rfl (gx_p1 (F.e rfl) (gx_p1 (F.e rfl) (gx_p1 (F.e rfl) (gx_p1 (F.e rfl) gx_p0)))) (by kernel_rfl)) ?_; intro A F
  obtain ⟨W9, hr, hB, hk⟩ := gx_storeAgg (P := Tryz.prog) (S := 33) (c := (Pk.cells ({ zk p.kind with id := p.id, props := p.props, codes := p.codes }) ((⟨none, 0, none, 0, s.ca, s.cc, s.pa, s.pc⟩ : Sl)))) _ (H.b.at_ (j := 0) rfl).1 (gs_33 _) rfl (pk_one _ _)
  refine hz_st (ex_store rfl (F.e rfl) (F.e rfl) hr) ?_; clear hr; replace H : Hp _ _ [_, _] := Hp.turn [] H hk hB; clear hk hB
  refine wpList_nil (hK39 _ _ ?_)
  refine gx_ret ?_
  refine (show bodyPost _ Tryz.f109 RR Exit.ret _ _ from ?_)
  exact bodyPost_ret (fn := Tryz.f109) (gx_resc rfl (F.g 2 _ rfl) (gl_agg ((Pk.cells ({ zk p.kind with id := p.id, props := p.props, codes := p.codes }) ((⟨none, 0, none, 0, s.ca, s.cc, s.pa, s.pc⟩ : Sl)))) rfl (ga_33 _) (gs_33 _) (fun i => H.cs 0 rfl i))) F.d (⟨by unfold Pk.val; exact congrArg (fun x => Ending.returned (.agg x)) (congr (congrArg Pk.cells (by (try simp only [← Bool.not_eq_true, Bool.or_eq_true, Bool.and_eq_true, decide_eq_true_eq] at hb7 hb11 hb14 hb18 hb21 hb24 hb26 hb30 hb32 hb36 hb38); unfold bareP; simp only [hb7, hb11, hb14, hb18, hb21, hb24, hb26, hb30, hb32, hb36, hb38, ↓reduceIte, or_true, true_or, or_self, Int.reduceEq, or_false, false_or] <;> (first | done | rfl))) (by (try simp only [← Bool.not_eq_true, Bool.or_eq_true, Bool.and_eq_true, decide_eq_true_eq] at hb7 hb11 hb14 hb18 hb21 hb24 hb26 hb30 hb32 hb36 hb38); unfold ownSl; simp only [hb7, hb11, hb14, hb18, hb21, hb24, hb26, hb30, hb32, hb36, hb38, ↓reduceIte, or_true, true_or, or_self, Int.reduceEq, or_false, false_or] <;> (first | done | rfl))), H.k⟩)
 refine wp_seq_k (fun K40 hK40 => ?_)
 refine wp_seq_k (fun K41 hK41 => gx_region ?_)
 refine zb (rn_eql) ?_; intro A F
 refine zd ?_; intro A F
 refine wpList_nil (hK41 _ _ ?_)
 refine zc (fun hb42 => ?_) (fun hb42 => ?_)
 ·skip
  refine wp_skip (hK40 _ _ ?_)
  refine wp_cond_true ((F.e rfl).trans (congrArg Value.bool hb42)) ?_
  refine wp_seq_k (fun K43 hK43 => gx_region ?_)
  iterate 6 (refine zd ?_; intro A F)
  refine hz_do (v := (Pk.val ({ zk p.kind with code := p.code, props := p.props }) ((⟨none, 0, none, 0, none, 0, s.pa, s.pc⟩ : Sl)))) F rfl (ex_build rfl (gx_p1 (F.e rfl) (gx_p1 (F.e rfl) (gx_p1 (F.e rfl) gx_p0))) (by kernel_rfl)) ?_; intro A F
  obtain ⟨W9, hr, hB, hk⟩ := gx_storeAgg (P := Tryz.prog) (S := 33) (c := (Pk.cells ({ zk p.kind with code := p.code, props := p.props }) ((⟨none, 0, none, 0, none, 0, s.pa, s.pc⟩ : Sl)))) _ (H.b.at_ (j := 0) rfl).1 (gs_33 _) rfl (pk_one _ _)
  refine hz_st (ex_store rfl (F.e rfl) (F.e rfl) hr) ?_; clear hr; replace H : Hp _ _ [_, _] := Hp.turn [] H hk hB; clear hk hB
  refine wpList_nil (hK43 _ _ ?_)
  refine gx_ret ?_
  refine (show bodyPost _ Tryz.f109 RR Exit.ret _ _ from ?_)
  exact bodyPost_ret (fn := Tryz.f109) (gx_resc rfl (F.g 2 _ rfl) (gl_agg ((Pk.cells ({ zk p.kind with code := p.code, props := p.props }) ((⟨none, 0, none, 0, none, 0, s.pa, s.pc⟩ : Sl)))) rfl (ga_33 _) (gs_33 _) (fun i => H.cs 0 rfl i))) F.d (⟨by unfold Pk.val; exact congrArg (fun x => Ending.returned (.agg x)) (congr (congrArg Pk.cells (by (try simp only [← Bool.not_eq_true, Bool.or_eq_true, Bool.and_eq_true, decide_eq_true_eq] at hb7 hb11 hb14 hb18 hb21 hb24 hb26 hb30 hb32 hb36 hb38 hb42); unfold bareP; simp only [hb7, hb11, hb14, hb18, hb21, hb24, hb26, hb30, hb32, hb36, hb38, hb42, ↓reduceIte, or_true, true_or, or_self, Int.reduceEq, or_false, false_or] <;> (first | done | rfl))) (by (try simp only [← Bool.not_eq_true, Bool.or_eq_true, Bool.and_eq_true, decide_eq_true_eq] at hb7 hb11 hb14 hb18 hb21 hb24 hb26 hb30 hb32 hb36 hb38 hb42); unfold ownSl; simp only [hb7, hb11, hb14, hb18, hb21, hb24, hb26, hb30, hb32, hb36, hb38, hb42, ↓reduceIte, or_true, true_or, or_self, Int.reduceEq, or_false, false_or] <;> (first | done | rfl))), H.k⟩)
 refine gx_region ?_
 refine zb (rn_eql) ?_; intro A F
 refine zd ?_; intro A F
 refine wpList_nil (hK40 _ _ ?_)
 refine zc (fun hb44 => ?_) (fun hb44 => ?_)
 ·skip
  refine wp_seq_k (fun K45 hK45 => gx_region ?_)
  iterate 6 (refine zd ?_; intro A F)
  refine hz_do (v := (Pk.val ({ zk p.kind with code := p.code, props := p.props }) ((⟨none, 0, none, 0, none, 0, s.pa, s.pc⟩ : Sl)))) F rfl (ex_build rfl (gx_p1 (F.e rfl) (gx_p1 (F.e rfl) (gx_p1 (F.e rfl) gx_p0))) (by kernel_rfl)) ?_; intro A F
  obtain ⟨W9, hr, hB, hk⟩ := gx_storeAgg (P := Tryz.prog) (S := 33) (c := (Pk.cells ({ zk p.kind with code := p.code, props := p.props }) ((⟨none, 0, none, 0, none, 0, s.pa, s.pc⟩ : Sl)))) _ (H.b.at_ (j := 0) rfl).1 (gs_33 _) rfl (pk_one _ _)
  refine hz_st (ex_store rfl (F.e rfl) (F.e rfl) hr) ?_; clear hr; replace H : Hp _ _ [_, _] := Hp.turn [] H hk hB; clear hk hB
  refine wpList_nil (hK45 _ _ ?_)
  refine gx_ret ?_
  refine (show bodyPost _ Tryz.f109 RR Exit.ret _ _ from ?_)
  exact bodyPost_ret (fn := Tryz.f109) (gx_resc rfl (F.g 2 _ rfl) (gl_agg ((Pk.cells ({ zk p.kind with code := p.code, props := p.props }) ((⟨none, 0, none, 0, none, 0, s.pa, s.pc⟩ : Sl)))) rfl (ga_33 _) (gs_33 _) (fun i => H.cs 0 rfl i))) F.d (⟨by unfold Pk.val; exact congrArg (fun x => Ending.returned (.agg x)) (congr (congrArg Pk.cells (by (try simp only [← Bool.not_eq_true, Bool.or_eq_true, Bool.and_eq_true, decide_eq_true_eq] at hb7 hb11 hb14 hb18 hb21 hb24 hb26 hb30 hb32 hb36 hb38 hb42 hb44); unfold bareP; simp only [hb7, hb11, hb14, hb18, hb21, hb24, hb26, hb30, hb32, hb36, hb38, hb42, hb44, ↓reduceIte, or_true, true_or, or_self, Int.reduceEq, or_false, false_or] <;> (first | done | rfl))) (by (try simp only [← Bool.not_eq_true, Bool.or_eq_true, Bool.and_eq_true, decide_eq_true_eq] at hb7 hb11 hb14 hb18 hb21 hb24 hb26 hb30 hb32 hb36 hb38 hb42 hb44); unfold ownSl; simp only [hb7, hb11, hb14, hb18, hb21, hb24, hb26, hb30, hb32, hb36, hb38, hb42, hb44, ↓reduceIte, or_true, true_or, or_self, Int.reduceEq, or_false, false_or] <;> (first | done | rfl))), H.k⟩)
 refine wp_skip (hK4 _ _ ?_)
 refine wp_seq_k (fun K46 hK46 => gx_region ?_)
 iterate 2 (refine zd ?_; intro A F)
 refine hz_do (v := (Pk.val ((zk p.kind)) ((⟨none, 0, none, 0, none, 0, none, 0⟩ : Sl)))) F rfl (ex_build rfl (gx_p1 (F.e rfl) gx_p0) (by kernel_rfl)) ?_; intro A F
 obtain ⟨W9, hr, hB, hk⟩ := gx_storeAgg (P := Tryz.prog) (S := 33) (c := (Pk.cells ((zk p.kind)) ((⟨none, 0, none, 0, none, 0, none, 0⟩ : Sl)))) _ (H.b.at_ (j := 0) rfl).1 (gs_33 _) rfl (pk_one _ _)
 refine hz_st (ex_store rfl (F.e rfl) (F.e rfl) hr) ?_; clear hr; replace H : Hp _ _ [_, _] := Hp.turn [] H hk hB; clear hk hB
 refine wpList_nil (hK46 _ _ ?_)
 refine gx_ret ?_
 refine (show bodyPost _ Tryz.f109 RR Exit.ret _ _ from ?_)
 exact bodyPost_ret (fn := Tryz.f109) (gx_resc rfl (F.g 2 _ rfl) (gl_agg ((Pk.cells ((zk p.kind)) ((⟨none, 0, none, 0, none, 0, none, 0⟩ : Sl)))) rfl (ga_33 _) (gs_33 _) (fun i => H.cs 0 rfl i))) F.d (⟨by unfold Pk.val; exact congrArg (fun x => Ending.returned (.agg x)) (congr (congrArg Pk.cells (by (try simp only [← Bool.not_eq_true, Bool.or_eq_true, Bool.and_eq_true, decide_eq_true_eq] at hb7 hb11 hb14 hb18 hb21 hb24 hb26 hb30 hb32 hb36 hb38 hb42 hb44); unfold bareP; simp only [hb7, hb11, hb14, hb18, hb21, hb24, hb26, hb30, hb32, hb36, hb38, hb42, hb44, ↓reduceIte, or_true, true_or, or_self, Int.reduceEq, or_false, false_or] <;> (first | done | rfl))) (by (try simp only [← Bool.not_eq_true, Bool.or_eq_true, Bool.and_eq_true, decide_eq_true_eq] at hb7 hb11 hb14 hb18 hb21 hb24 hb26 hb30 hb32 hb36 hb38 hb42 hb44); unfold ownSl; simp only [hb7, hb11, hb14, hb18, hb21, hb24, hb26, hb30, hb32, hb36, hb38, hb42, hb44, ↓reduceIte, or_true, true_or, or_self, Int.reduceEq, or_false, false_or] <;> (first | done | rfl))), H.k⟩)
theorem pkRight_any (v : Int) (p : Pk) (s : Sl) (w : World) (hp : p.At s w) (hF : Fit p) (hT : Tabs w) :
  Calls Tryz.prog 47 #[.int .i64 v, p.val s] w fun e w' => e = .returned (.bool (rightP v p)) ∧ Kept No w w' := by
 have hsame : sameB p (bareP p) = decide (p = bareP p) := sameB_eq p (bareP p)
 let RR : Ending → World → Prop := fun e w' => e = .returned (.bool (rightP v p)) ∧ Kept No w w'
 go_enter Tryz.func47, Tryz.ntmps47
 generalize hA : ({ tmps := _, defers := [] } : Act) = A
 have F : Fr A 31 [(1, (Pk.val p s)), (0, (.int .i64 v))] := by rw [← hA]; exact (Fr.cons (i := 1) (v := (Pk.val p s)) (Fr.cons (i := 0) (v := (.int .i64 v)) (Fr.nil0 rfl rfl) rfl) rfl)
 clear hA; have H := Hp.start w
 refine wp_seq_k (fun K1 hK1 => gx_region ?_)
 refine hz_new (c := (Pk.cells p s)) (t := 33) F H rfl (ex_box rfl (F.e rfl) (gx_box _ _)) ?_; clear F A; intro b2 W A hk hN H9 F; clear H; have H := H9; clear H9
 clear hk hN
 refine zd ?_; intro A F
 refine wpList_nil (hK1 _ _ ?_)
 refine wp_seq_k (fun K3 hK3 => ?_)
 refine wp_region_held_drew (S := fun wx => Hp _ wx _) (by kernel_rfl) H.drew (fun H9 => ?_); clear H; have H := H9; clear H9
 generalize World.drew _ = W at *
 refine td 0 ?_; intro A F
 refine td 1 ?_; intro A F
 refine td 2 ?_; intro A F
 refine hb_one (i := 3) (by kernel_rfl) (hb_callk (i := 3) F rfl rfl (ex_call rfl rfl (gx_l1 (F.e rfl) (gx_l1 (F.e rfl) gx_l0)) fn_107) ((exists_any v p.kind _).mono fun e9 ww h9 => ⟨h9.1, h9.2 ▸ Kept.refl No _⟩) (fun _ hk => (H.kept hk)) ?_); clear F A; intro W A hk _ F; replace H := H.kept hk
 clear hk
 refine td 4 ?_; intro A F
 refine hzh_g (i := 5) F rfl rfl (by kernel_rfl) (fun _ _ _ _ h => h) (H) (hw_t F rfl rfl rfl) (fun hG wz H => (ex_load rfl (F.e rfl) (gl_agg ((Pk.cells p s)) rfl (ga_33 _) (gs_33 _) (fun i => H.cs 0 rfl i)))) ?_; intro A F
 refine hzh_g (i := 6) F rfl rfl (by kernel_rfl) (fun _ _ _ _ h => h) (H) (hw_t F rfl rfl rfl) (fun hG wz H => (ex_load rfl (F.e rfl) (gl_agg ((Pk.cells p s)) rfl (ga_33 _) (gs_33 _) (fun i => H.cs 0 rfl i)))) ?_; intro A F
 refine hzh_callg (i := 7) F rfl rfl (by kernel_rfl) (hw_t F rfl rfl rfl) (fun hG => (ex_call rfl rfl (gx_l1 (F.o rfl hG) gx_l0) fn_109)) (fun hG => own_any p s _ (hp.kept H.k)) (fun _ hk => H.kept hk) ?_; clear F H A; intro W A hk H F
 clear hk
 refine hzh_callg (i := 8) F rfl rfl (by kernel_rfl) (hw_t F rfl rfl rfl) (fun hG => (ex_call rfl rfl (gx_l1 (F.o rfl hG) (gx_l1 (F.o rfl hG) gx_l0)) fn_108)) (fun hG => pksame2_any p (bareP p) s (ownSl p s) _ (hp.kept H.k) (ownSl_at (hp.kept H.k)) hF.few (bare_few hF.few)) (fun _ hk => H.kept hk) ?_; clear F H A; intro W A hk H F
 clear hk
 refine hzh_do (i := 9) F rfl rfl (by kernel_rfl) (fun _ _ _ h => h) (H) (fun wz H => (ex_pickA rfl (F.e rfl) (fun hx => (F.o rfl hx)) rfl)) ?_; intro A F
 refine td 10 ?_; intro A F
 refine hzh_g (i := 11) F rfl rfl (by kernel_rfl) (fun _ _ _ _ h => h) (H) (hw_t F rfl rfl rfl) (fun hG wz H => (ex_move rfl (F.e rfl))) ?_; intro A F
 refine hzh_g (i := 12) F rfl rfl (by kernel_rfl) (fun _ _ _ _ h => h) (H) (hw_t F rfl rfl rfl) (fun hG wz H => (ex_load rfl (F.e rfl) (gl_agg ((Pk.cells p s)) rfl (ga_33 _) (gs_33 _) (fun i => H.cs 0 rfl i)))) ?_; intro A F
 refine hzh_callg (i := 13) F rfl rfl (by kernel_rfl) (hw_t F rfl rfl rfl) (fun hG => (ex_call rfl rfl (gx_l1 (F.o rfl hG) (gx_l1 (F.o rfl hG) gx_l0)) fn_110)) (fun hG => propsRight_any v p s _ (hp.kept H.k) hF.few hF.wf (hT.kept H.k)) (fun _ hk => H.kept hk) ?_; clear F H A; intro W A hk H F
 clear hk
 refine hzh_do (i := 14) F rfl rfl (by kernel_rfl) (fun _ _ _ h => h) (H) (fun wz H => (ex_pickA rfl (F.e rfl) (fun hx => (F.o rfl hx)) rfl)) ?_; intro A F
 refine td 15 ?_; intro A F
 refine hzh_g (i := 16) F rfl rfl (by kernel_rfl) (fun _ _ _ _ h => h) (H) (hw_t F rfl rfl rfl) (fun hG wz H => (ex_move rfl (F.e rfl))) ?_; intro A F
 refine hzh_g (i := 17) F rfl rfl (by kernel_rfl) (fun _ _ _ _ h => h) (H) (hw_t F rfl rfl rfl) (fun hG wz H => (ex_load rfl (F.e rfl) (gl_agg ((Pk.cells p s)) rfl (ga_33 _) (gs_33 _) (fun i => H.cs 0 rfl i)))) ?_; intro A F
 refine hzh_callg (i := 18) F rfl rfl (by kernel_rfl) (hw_t F rfl rfl rfl) (fun hG => (ex_call rfl rfl (gx_l1 (F.o rfl hG) (gx_l1 (F.o rfl hG) gx_l0)) fn_111)) (fun hG => fieldsRight_any v p s _ (hp.kept H.k) hF (hT.kept H.k)) (fun _ hk => H.kept hk) ?_; clear F H A; intro W A hk H F
 clear hk
 refine hzh_do (i := 19) F rfl rfl (by kernel_rfl) (fun _ _ _ h => h) (H) (fun wz H => (ex_pickA rfl (F.e rfl) (fun hx => (F.o rfl hx)) rfl)) ?_; intro A F
 refine td 20 ?_; intro A F
 refine hzh_g (i := 21) F rfl rfl (by kernel_rfl) (fun _ _ _ _ h => h) (H) (hw_t F rfl rfl rfl) (fun hG wz H => (ex_move rfl (F.e rfl))) ?_; intro A F
 refine hzh_g (i := 22) F rfl rfl (by kernel_rfl) (fun _ _ _ _ h => h) (H) (hw_t F rfl rfl rfl) (fun hG wz H => (ex_load rfl (F.e rfl) (gl_agg ((Pk.cells p s)) rfl (ga_33 _) (gs_33 _) (fun i => H.cs 0 rfl i)))) ?_; intro A F
 refine hzh_callg (i := 23) F rfl rfl (by kernel_rfl) (hw_t F rfl rfl rfl) (fun hG => (ex_call rfl rfl (gx_l1 (F.o rfl hG) (gx_l1 (F.o rfl hG) gx_l0)) fn_26)) (fun hG => Rest_any v p s _ (hp.kept H.k) hF (hT.kept H.k) (right_S (ga2 (ga1 (ga1 hG))) (ga2 hG))) (fun _ hk => H.kept hk) ?_; clear F H A; intro W A hk H F
 clear hk
 refine hzh_g (i := 24) F rfl rfl (by kernel_rfl) (fun _ _ _ _ h => h) (H) (hw_t F rfl rfl rfl) (fun hG wz H => (ex_bin rfl (F.o rfl hG) gx_evc (rn_leqN (i := restN v p) (j := 268435455)))) ?_; intro A F
 refine hzh_do (i := 25) F rfl rfl (by kernel_rfl) (fun _ _ _ h => h) (H) (fun wz H => (ex_pickA rfl (F.e rfl) (fun hx => (F.o rfl hx)) rfl)) ?_; intro A F
 refine td 26 ?_; intro A F
 refine wpAnyH_done (by kernel_rfl) ?_ _
 refine hK3 _ _ ?_
 refine gx_ret ?_
 refine (show bodyPost _ Tryz.f47 RR Exit.ret _ _ from zr ?_)
 exact rb (by first | rfl | (simp only [rightP, hsame, Bool.and_assoc, Bool.or_assoc, Bool.and_true, Bool.true_and, Bool.and_false, Bool.false_and] <;> rfl) | (simp [rightP, hsame]; done) | (simp only [rightP, hsame]; grind))
end Go.Proofs.YtomppebamfpimaaGreatDoor
