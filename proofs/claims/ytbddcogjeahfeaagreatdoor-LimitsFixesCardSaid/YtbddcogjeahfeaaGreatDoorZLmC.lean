import Derived.Test.YtbddcogjeahfeaaGreatDoorZLmO
import Derived.Test.YtbddcogjeahfeaaGreatDoorZLmS
namespace Go.Proofs.YtbddcogjeahfeaaGreatDoor
open Go.RowKit
set_option linter.unusedVariables false
set_option linter.unusedSimpArgs false
set_option maxRecDepth 100000
theorem gl_agg4 {P : Program} {T b o : Nat} {w : World} {u v x y : Value} (e1 : (isAgg T).run P w = .ok true w) (e2 : (Go.sizeOf T).run P w = .ok 4 w) (h0 : w.cell? ⟨b, o, none⟩ = some u) (h1 : w.cell? ⟨b, o + 1, none⟩ = some v) (h2 : w.cell? ⟨b, o + 2, none⟩ = some x) (h3 : w.cell? ⟨b, o + 3, none⟩ = some y) :
  (Instr.loadAt T (.pointer (some ⟨b, o, none⟩))).run P w = .ok (.agg #[u, v, x, y]) w := by
 have e3 := run_loadCells_list (P := P) (w := w) ⟨b, o, none⟩ [u, v, x, y] (fun j z hz => by
  rw [Addr.add_lit]
  match j with
  | 0 => simp at hz; subst hz; exact h0
  | 1 => simp at hz; subst hz; exact h1
  | 2 => simp at hz; subst hz; exact h2
  | 3 => simp at hz; subst hz; exact h3
  | j + 4 => simp at hz)
 have e5 : (Instr.loadAt T (.pointer (some ⟨b, o, none⟩))).run P w = (loadVar T ⟨b, o, none⟩).run P w := by rfl
 rw [e5]
 unfold loadVar
 simp only [Sem.run_bind, e1, e2, Result.andThen, if_true]
 have e7 : (loadCells (⟨b, o, none⟩ : Addr) 4).run P w = .ok #[u, v, x, y] w := e3
 simp [e7, Result.andThen]
theorem saysB_iff (v : Int) (p : Pk) : saysB v p = true ↔ v = 5 ∧ (p.kind = 1 ∨ p.kind = 2) ∧ rightP v p = true := by
 unfold saysB
 simp
theorem ofP_says (v : Int) (p : Pk) : ofP v p = if saysB v p = true then p.props.foldl stepL .std else .std := by
 unfold ofP
 by_cases h : v = 5 ∧ (p.kind = 1 ∨ p.kind = 2) ∧ rightP v p = true
 ·rw [if_pos h, if_pos ((saysB_iff v p).2 h)]
 ·rw [if_neg h, if_neg fun h9 => h ((saysB_iff v p).1 h9)]
theorem drop_step {L : List Pr} {j : Nat} {d R e : Lm} (h : j < L.length) {x : Pr} (hx : x = L[j]) (hf : (L.drop j).foldl stepL d = R) (he : stepL d x = e) : (L.drop (j + 1)).foldl stepL e = R := by
 rw [List.drop_eq_getElem_cons h, List.foldl_cons, ← hx, he] at hf
 exact hf
set_option maxHeartbeats 8000000 in
theorem of_any (v : Int) (p : Pk) (s : Sl) (w : World) (hp : p.At s w) (hF : Fit p) (hl : p.props.length ≤ 100000) (hT : Tabs w) :
  Calls Tryz.prog 8 #[.int .i64 v, p.val s] w fun e w' => e = .returned (ofP v p).val ∧ Kept No w w' := by
 let RR : Ending → World → Prop := fun e w' => e = .returned (ofP v p).val ∧ Kept No w w'
 go_enter Tryz.func8, Tryz.ntmps8
 generalize hA : ({ tmps := _, defers := [] } : Act) = A
 have F : Fr A 73 [(1, (Pk.val p s)), (0, (.int .i64 v))] := by rw [← hA]; exact (Fr.cons (i := 1) (v := (Pk.val p s)) (Fr.cons (i := 0) (v := (.int .i64 v)) (Fr.nil0 rfl rfl) rfl) rfl)
 clear hA; have H := Hp.start w
 refine wp_seq_k (fun K1 hK1 => gx_region ?_)
 refine hz_new (c := (Pk.cells p s)) (t := 38) F H rfl (ex_box rfl (F.e rfl) (gx_box _ _)) ?_; clear F A; intro b2 W A hk hN H9 F; clear H; have H := H9; clear H9
 clear hk hN
 refine hz_new (c := #[(.int .u16 0), (.int .u16 0), (.int .i64 0), (.int .u8 0), (.bool false), (.bool false), (.bool false), (.bool false)]) (t := 33) F H rfl (ex_alloc rfl (al_33 _)) ?_; clear F A; intro b3 W A hk hN H9 F; clear H; have H := H9; clear H9
 clear hk hN
 refine wpList_nil (hK1 _ _ ?_)
 refine wp_seq_k (fun K4 hK4 => gx_region ?_)
 refine hz_callk F H rfl (ex_call rfl rfl gx_l0 fn_13) (default_any _) ?_; clear F H A; intro W A hk H F
 clear hk
 refine hz_new (c := #[(.int .u16 0), (.int .u16 0), (.int .i64 0), (.int .u8 0), (.bool false), (.bool false), (.bool false), (.bool false)]) (t := 33) F H rfl (ex_alloc rfl (al_33 _)) ?_; clear F A; intro b6 W A hk hN H9 F; clear H; have H := H9; clear H9
 clear hk hN
 obtain ⟨W9, hr, hB, hk⟩ := gx_storeAgg (P := Tryz.prog) (S := 33) (c := #[(.int .u16 65535), (.int .u16 0), (.int .i64 268435460), (.int .u8 2), (.bool true), (.bool true), (.bool true), (.bool true)]) _ (H.b.at_ (j := 0) rfl).1 (gs_33 _) rfl (by simp [Value.oneCell'])
 refine hz_st (ex_store rfl (F.e rfl) (F.e rfl) hr) ?_; clear hr; replace H : Hp _ _ [_, _, _] := Hp.turn [] H hk hB; clear hk hB
 refine wpList_nil (hK4 _ _ ?_)
 refine wp_seq_k (fun K7 hK7 => ?_)
 refine wp_seq_k (fun K8 hK8 => gx_region ?_)
 refine zd ?_; intro A F
 refine hz_do F rfl (ex_load rfl (F.e rfl) (gl_agg ((Pk.cells p s)) rfl (ga_38 _) (gs_38 _) (fun i => H.cs 2 rfl i))) ?_; intro A F
 refine hz_callk F H rfl (ex_call rfl rfl (gx_l1 (F.e rfl) (gx_l1 (F.e rfl) gx_l0)) fn_14) (says_any v p s _ (hp.kept H.k) hF (hT.kept H.k)) ?_; clear F H A; intro W A hk H F
 clear hk
 refine zd ?_; intro A F
 refine wpList_nil (hK8 _ _ ?_)
 refine zc (fun hb10 => ?_) (fun hb10 => ?_)
 ·skip
  refine wp_seq_k (fun K11 hK11 => gx_region ?_)
  refine hz_do F rfl (ex_load rfl (F.e rfl) (gl_agg (#[(.int .u16 65535), (.int .u16 0), (.int .i64 268435460), (.int .u8 2), (.bool true), (.bool true), (.bool true), (.bool true)]) rfl (ga_33 _) (gs_33 _) (fun i => H.cs 0 rfl i))) ?_; intro A F
  obtain ⟨W9, hr, hB, hk⟩ := gx_storeAgg (P := Tryz.prog) (S := 33) (c := #[(.int .u16 65535), (.int .u16 0), (.int .i64 268435460), (.int .u8 2), (.bool true), (.bool true), (.bool true), (.bool true)]) _ (H.b.at_ (j := 1) rfl).1 (gs_33 _) rfl (by simp [Value.oneCell'])
  refine hz_st (ex_store rfl (F.e rfl) (F.e rfl) hr) ?_; clear hr; replace H : Hp _ _ [_, _, _] := Hp.turn [_] H hk hB; clear hk hB
  refine wpList_nil (hK11 _ _ ?_)
  refine gx_ret ?_
  refine (show bodyPost _ Tryz.f8 RR Exit.ret _ _ from ?_)
  exact bodyPost_ret (fn := Tryz.f8) (gx_resc rfl (F.g 4 _ rfl) (gl_agg (#[(.int .u16 65535), (.int .u16 0), (.int .i64 268435460), (.int .u8 2), (.bool true), (.bool true), (.bool true), (.bool true)]) rfl (ga_33 _) (gs_33 _) (fun i => H.cs 1 rfl i))) F.d (lmr (a := ⟨65535, 0, 268435460, 2, true, true, true, true⟩) (by rw [ofP_says, show saysB v p = false from by have h8 := hb10; simpa using h8]; rfl))
 refine wp_skip (hK7 _ _ ?_)
 refine wp_seq_k (fun K12 hK12 => ?_)
 refine wp_seq_k (fun K13 hK13 => gx_region ?_)
 iterate 2 (refine zd ?_; intro A F)
 refine hz_do F rfl (ex_len rfl (gx_l1 (F.e rfl) gx_l0) (rn_lens Tryz.underlying35)) ?_; intro A F
 refine zd ?_; intro A F
 refine wpList_nil (hK13 _ _ ?_)
 refine wp_block ?_
 refine hz_loop (fun (j : Nat) A W => ∃ f0 : Int, ∃ f1 : Int, ∃ f2 : Int, ∃ f3 : Int, ∃ f4 : Bool, ∃ f5 : Bool, ∃ f6 : Bool, ∃ f7 : Bool, Fr A 73 [(4, (.pointer (some ⟨b3, 0, none⟩))), (5, (.pointer (some ⟨b6, 0, none⟩))), (15, (.slice s.pa p.props.length s.pc)), (16, (.int .i64 ((p.props.length : Int)))), (17, (.int .i64 ((j : Int))))] ∧ Hp w W [⟨b6, 33, #[(.int .u16 f0), (.int .u16 f1), (.int .i64 f2), (.int .u8 f3), (.bool f4), (.bool f5), (.bool f6), (.bool f7)]⟩, ⟨b3, 33, #[(.int .u16 0), (.int .u16 0), (.int .i64 0), (.int .u8 0), (.bool false), (.bool false), (.bool false), (.bool false)]⟩, ⟨b2, 38, (Pk.cells p s)⟩] ∧ (j ≤ p.props.length) ∧ ((p.props.drop j).foldl stepL ⟨f0, f1, f2, f3, f4, f5, f6, f7⟩ = p.props.foldl stepL .std)) (fun j => p.props.length - j) 0 ⟨65535, 0, 268435460, 2, true, true, true, true, (((((F.nil.cons (gx_is (F.g 17 _ rfl) (by rfl))).cons (F.g 16 _ rfl)).cons (F.g 15 _ rfl)).cons (F.g 5 _ rfl)).cons (F.g 4 _ rfl)), H, by omega, rfl⟩ (fun j A W hI J14 hJ14 => ?_)
 clear F H; obtain ⟨f0, f1, f2, f3, f4, f5, f6, f7, F, H, hj, hf⟩ := hI
 refine wp_seq_k (fun K15 hK15 => gx_region ?_)
 refine zb (rn_lssN (i := j) (j := p.props.length)) ?_; intro A F
 refine wpList_nil (hK15 _ _ ?_)
 refine wp_seq_k (fun K16 hK16 => ?_)
 refine zc (fun hb17 => ?_) (fun hb17 => ?_)
 ·skip
  refine wp_skip (hK16 _ _ ?_)
  refine wp_seq_k (fun K18 hK18 => ?_)
  refine wp_block ?_
  refine wp_seq_k (fun K19 hK19 => gx_region ?_)
  have hlt : j < p.props.length := of_decide_eq_true hb17
  obtain ⟨b9, off9, ha9, hbl9, q0, q1, q2, q3⟩ := (hp.kept H.k).hp.prop hlt
  obtain ⟨x9, hx9⟩ : ∃ x9, x9 = p.props[j] := ⟨_, rfl⟩; rw [← hx9] at q0 q1 q2 q3
  refine hz_do F rfl (ex_idxaddr rfl ((F.e rfl).trans (show _ = Value.slice (some ⟨b9, off9, none⟩) p.props.length s.pc from by first | (rw [← ha9]; done) | (rw [← ha9]; rfl))) (F.e rfl) (rn_idx Tryz.underlying35 (gs_50 _) hlt)) ?_; intro A F
  refine hz_do (v := (.agg #[(.int .u8 ((x9.id : Int))), (.int .u32 ((x9.n : Int))), (.string x9.a), (.string x9.b)])) F rfl (ex_load rfl (F.e rfl) (gl_agg4 (ga_50 _) (gs_50 _) q0 q1 q2 q3)) ?_; intro A F
  refine hz_new (c := #[(.int .u8 0), (.int .u32 0), (.string ⟨#[]⟩), (.string ⟨#[]⟩)]) (t := 50) F H rfl (ex_alloc rfl (al_50 _)) ?_; clear F A; intro b20 W A hk hN H9 F; clear H; have H := H9; clear H9
  clear hk hN
  obtain ⟨W9, hr, hB, hk⟩ := gx_storeAgg (P := Tryz.prog) (S := 50) (c := #[(.int .u8 ((x9.id : Int))), (.int .u32 ((x9.n : Int))), (.string x9.a), (.string x9.b)]) _ (H.b.at_ (j := 0) rfl).1 (gs_50 _) rfl (by simp [Value.oneCell'])
  refine hz_st (ex_store rfl (F.e rfl) (F.e rfl) hr) ?_; clear hr; replace H : Hp _ _ [_, _, _, _] := Hp.turn [] H hk hB; clear hk hB
  refine wpList_nil (hK19 _ _ ?_)
  refine wp_seq_k (fun K21 hK21 => gx_region ?_)
  iterate 2 (refine zd ?_; intro A F)
  refine wpList_nil (hK21 _ _ ?_)
  refine wp_block ?_
  refine wp_seq_k (fun K22 hK22 => gx_region ?_)
  refine zb (rn_eqlN (i := x9.id) (j := 33)) ?_; intro A F
  refine zd ?_; intro A F
  refine wpList_nil (hK22 _ _ ?_)
  refine zc (fun hb23 => ?_) (fun hb23 => ?_)
  ·skip
   refine gx_region ?_
   iterate 2 (refine zd ?_; intro A F)
   refine hz_do (v := (.int .u16 (w16 x9.n))) F rfl (ex_conv rfl (F.e rfl) (cv16 _ _)) ?_; intro A F
   refine zd ?_; intro A F
   refine zs [_] (#[(.int .u16 (w16 x9.n)), (.int .u16 f1), (.int .i64 f2), (.int .u8 f3), (.bool f4), (.bool f5), (.bool f6), (.bool f7)]) ?_; intro W H9 hk
   clear H hk; have H := H9; clear H9
   refine wpList_nil (hK18 _ _ ?_)
   refine gx_region ?_
   refine hz_do F rfl (ex_bin rfl (F.e rfl) gx_evc (rn_add (gx_wrap_i64 (by omega) (by omega)))) ?_; intro A F
   refine zd ?_; intro A F
   refine wpList_nil ?_
   exact hJ14 ((j + 1)) _ _ (by omega) ⟨w16 x9.n, f1, f2, f3, f4, f5, f6, f7, (((((F.nil.cons (gx_is (F.g 17 _ rfl) (by simp))).cons (F.g 16 _ rfl)).cons (F.g 15 _ rfl)).cons (F.g 5 _ rfl)).cons (F.g 4 _ rfl)), H.tl, by omega, drop_step hlt hx9 hf (by unfold stepL; rw [if_pos (of_decide_eq_true hb23)]; first | done | rfl)⟩
  refine wp_seq_k (fun K24 hK24 => gx_region ?_)
  refine zb (rn_eqlN (i := x9.id) (j := 34)) ?_; intro A F
  refine zd ?_; intro A F
  refine wpList_nil (hK24 _ _ ?_)
  refine zc (fun hb25 => ?_) (fun hb25 => ?_)
  ·skip
   refine gx_region ?_
   iterate 2 (refine zd ?_; intro A F)
   refine hz_do (v := (.int .u16 (w16 x9.n))) F rfl (ex_conv rfl (F.e rfl) (cv16 _ _)) ?_; intro A F
   refine zd ?_; intro A F
   refine zs [_] (#[(.int .u16 f0), (.int .u16 (w16 x9.n)), (.int .i64 f2), (.int .u8 f3), (.bool f4), (.bool f5), (.bool f6), (.bool f7)]) ?_; intro W H9 hk
   clear H hk; have H := H9; clear H9
   refine wpList_nil (hK18 _ _ ?_)
   refine gx_region ?_
   refine hz_do F rfl (ex_bin rfl (F.e rfl) gx_evc (rn_add (gx_wrap_i64 (by omega) (by omega)))) ?_; intro A F
   refine zd ?_; intro A F
   refine wpList_nil ?_
   exact hJ14 ((j + 1)) _ _ (by omega) ⟨f0, w16 x9.n, f2, f3, f4, f5, f6, f7, (((((F.nil.cons (gx_is (F.g 17 _ rfl) (by simp))).cons (F.g 16 _ rfl)).cons (F.g 15 _ rfl)).cons (F.g 5 _ rfl)).cons (F.g 4 _ rfl)), H.tl, by omega, drop_step hlt hx9 hf (by unfold stepL; rw [if_neg (of_decide_eq_false hb23), if_pos (of_decide_eq_true hb25)]; first | done | rfl)⟩
  refine wp_seq_k (fun K26 hK26 => gx_region ?_)
  refine zb (rn_eqlN (i := x9.id) (j := 39)) ?_; intro A F
  refine zd ?_; intro A F
  refine wpList_nil (hK26 _ _ ?_)
  refine zc (fun hb27 => ?_) (fun hb27 => ?_)
  ·skip
   refine gx_region ?_
   iterate 2 (refine zd ?_; intro A F)
   refine hz_do (v := (.int .i64 (wI x9.n))) F rfl (ex_conv rfl (F.e rfl) (cvI _ _)) ?_; intro A F
   refine zd ?_; intro A F
   refine zs [_] (#[(.int .u16 f0), (.int .u16 f1), (.int .i64 (wI x9.n)), (.int .u8 f3), (.bool f4), (.bool f5), (.bool f6), (.bool f7)]) ?_; intro W H9 hk
   clear H hk; have H := H9; clear H9
   refine wpList_nil (hK18 _ _ ?_)
   refine gx_region ?_
   refine hz_do F rfl (ex_bin rfl (F.e rfl) gx_evc (rn_add (gx_wrap_i64 (by omega) (by omega)))) ?_; intro A F
   refine zd ?_; intro A F
   refine wpList_nil ?_
   exact hJ14 ((j + 1)) _ _ (by omega) ⟨f0, f1, wI x9.n, f3, f4, f5, f6, f7, (((((F.nil.cons (gx_is (F.g 17 _ rfl) (by simp))).cons (F.g 16 _ rfl)).cons (F.g 15 _ rfl)).cons (F.g 5 _ rfl)).cons (F.g 4 _ rfl)), H.tl, by omega, drop_step hlt hx9 hf (by unfold stepL; rw [if_neg (of_decide_eq_false hb23), if_neg (of_decide_eq_false hb25), if_pos (of_decide_eq_true hb27)]; first | done | rfl)⟩
  refine wp_seq_k (fun K28 hK28 => gx_region ?_)
  refine zb (rn_eqlN (i := x9.id) (j := 36)) ?_; intro A F
  refine zd ?_; intro A F
  refine wpList_nil (hK28 _ _ ?_)
  refine zc (fun hb29 => ?_) (fun hb29 => ?_)
  ·skip
   refine gx_region ?_
   iterate 2 (refine zd ?_; intro A F)
   refine hz_do (v := (.int .u8 (w8 x9.n))) F rfl (ex_conv rfl (F.e rfl) (cv8 _ _)) ?_; intro A F
   refine zd ?_; intro A F
   refine zs [_] (#[(.int .u16 f0), (.int .u16 f1), (.int .i64 f2), (.int .u8 (w8 x9.n)), (.bool f4), (.bool f5), (.bool f6), (.bool f7)]) ?_; intro W H9 hk
   clear H hk; have H := H9; clear H9
   refine wpList_nil (hK18 _ _ ?_)
   refine gx_region ?_
   refine hz_do F rfl (ex_bin rfl (F.e rfl) gx_evc (rn_add (gx_wrap_i64 (by omega) (by omega)))) ?_; intro A F
   refine zd ?_; intro A F
   refine wpList_nil ?_
   exact hJ14 ((j + 1)) _ _ (by omega) ⟨f0, f1, f2, w8 x9.n, f4, f5, f6, f7, (((((F.nil.cons (gx_is (F.g 17 _ rfl) (by simp))).cons (F.g 16 _ rfl)).cons (F.g 15 _ rfl)).cons (F.g 5 _ rfl)).cons (F.g 4 _ rfl)), H.tl, by omega, drop_step hlt hx9 hf (by unfold stepL; rw [if_neg (of_decide_eq_false hb23), if_neg (of_decide_eq_false hb25), if_neg (of_decide_eq_false hb27), if_pos (of_decide_eq_true hb29)]; first | done | rfl)⟩
  refine wp_seq_k (fun K30 hK30 => gx_region ?_)
  refine zb (rn_eqlN (i := x9.id) (j := 37)) ?_; intro A F
  refine zd ?_; intro A F
  refine wpList_nil (hK30 _ _ ?_)
  refine zc (fun hb31 => ?_) (fun hb31 => ?_)
  ·skip
   refine gx_region ?_
   iterate 2 (refine zd ?_; intro A F)
   refine zb (rn_neqN (i := x9.n) (j := 0)) ?_; intro A F
   refine zd ?_; intro A F
   refine zs [_] (#[(.int .u16 f0), (.int .u16 f1), (.int .i64 f2), (.int .u8 f3), (.bool (!decide (x9.n = 0))), (.bool f5), (.bool f6), (.bool f7)]) ?_; intro W H9 hk
   clear H hk; have H := H9; clear H9
   refine wpList_nil (hK18 _ _ ?_)
   refine gx_region ?_
   refine hz_do F rfl (ex_bin rfl (F.e rfl) gx_evc (rn_add (gx_wrap_i64 (by omega) (by omega)))) ?_; intro A F
   refine zd ?_; intro A F
   refine wpList_nil ?_
   exact hJ14 ((j + 1)) _ _ (by omega) ⟨f0, f1, f2, f3, !decide (x9.n = 0), f5, f6, f7, (((((F.nil.cons (gx_is (F.g 17 _ rfl) (by simp))).cons (F.g 16 _ rfl)).cons (F.g 15 _ rfl)).cons (F.g 5 _ rfl)).cons (F.g 4 _ rfl)), H.tl, by omega, drop_step hlt hx9 hf (by unfold stepL; rw [if_neg (of_decide_eq_false hb23), if_neg (of_decide_eq_false hb25), if_neg (of_decide_eq_false hb27), if_neg (of_decide_eq_false hb29), if_pos (of_decide_eq_true hb31)]; first | done | rfl)⟩
  refine wp_seq_k (fun K32 hK32 => gx_region ?_)
  refine zb (rn_eqlN (i := x9.id) (j := 40)) ?_; intro A F
  refine zd ?_; intro A F
  refine wpList_nil (hK32 _ _ ?_)
  refine zc (fun hb33 => ?_) (fun hb33 => ?_)
  ·skip
   refine gx_region ?_
   iterate 2 (refine zd ?_; intro A F)
   refine zb (rn_neqN (i := x9.n) (j := 0)) ?_; intro A F
   refine zd ?_; intro A F
   refine zs [_] (#[(.int .u16 f0), (.int .u16 f1), (.int .i64 f2), (.int .u8 f3), (.bool f4), (.bool (!decide (x9.n = 0))), (.bool f6), (.bool f7)]) ?_; intro W H9 hk
   clear H hk; have H := H9; clear H9
   refine wpList_nil (hK18 _ _ ?_)
   refine gx_region ?_
   refine hz_do F rfl (ex_bin rfl (F.e rfl) gx_evc (rn_add (gx_wrap_i64 (by omega) (by omega)))) ?_; intro A F
   refine zd ?_; intro A F
   refine wpList_nil ?_
   exact hJ14 ((j + 1)) _ _ (by omega) ⟨f0, f1, f2, f3, f4, !decide (x9.n = 0), f6, f7, (((((F.nil.cons (gx_is (F.g 17 _ rfl) (by simp))).cons (F.g 16 _ rfl)).cons (F.g 15 _ rfl)).cons (F.g 5 _ rfl)).cons (F.g 4 _ rfl)), H.tl, by omega, drop_step hlt hx9 hf (by unfold stepL; rw [if_neg (of_decide_eq_false hb23), if_neg (of_decide_eq_false hb25), if_neg (of_decide_eq_false hb27), if_neg (of_decide_eq_false hb29), if_neg (of_decide_eq_false hb31), if_pos (of_decide_eq_true hb33)]; first | done | rfl)⟩
  refine wp_seq_k (fun K34 hK34 => gx_region ?_)
  refine zb (rn_eqlN (i := x9.id) (j := 41)) ?_; intro A F
  refine zd ?_; intro A F
  refine wpList_nil (hK34 _ _ ?_)
  refine zc (fun hb35 => ?_) (fun hb35 => ?_)
  ·skip
   refine gx_region ?_
   iterate 2 (refine zd ?_; intro A F)
   refine zb (rn_neqN (i := x9.n) (j := 0)) ?_; intro A F
   refine zd ?_; intro A F
   refine zs [_] (#[(.int .u16 f0), (.int .u16 f1), (.int .i64 f2), (.int .u8 f3), (.bool f4), (.bool f5), (.bool (!decide (x9.n = 0))), (.bool f7)]) ?_; intro W H9 hk
   clear H hk; have H := H9; clear H9
   refine wpList_nil (hK18 _ _ ?_)
   refine gx_region ?_
   refine hz_do F rfl (ex_bin rfl (F.e rfl) gx_evc (rn_add (gx_wrap_i64 (by omega) (by omega)))) ?_; intro A F
   refine zd ?_; intro A F
   refine wpList_nil ?_
   exact hJ14 ((j + 1)) _ _ (by omega) ⟨f0, f1, f2, f3, f4, f5, !decide (x9.n = 0), f7, (((((F.nil.cons (gx_is (F.g 17 _ rfl) (by simp))).cons (F.g 16 _ rfl)).cons (F.g 15 _ rfl)).cons (F.g 5 _ rfl)).cons (F.g 4 _ rfl)), H.tl, by omega, drop_step hlt hx9 hf (by unfold stepL; rw [if_neg (of_decide_eq_false hb23), if_neg (of_decide_eq_false hb25), if_neg (of_decide_eq_false hb27), if_neg (of_decide_eq_false hb29), if_neg (of_decide_eq_false hb31), if_neg (of_decide_eq_false hb33), if_pos (of_decide_eq_true hb35)]; first | done | rfl)⟩
  refine wp_seq_k (fun K36 hK36 => gx_region ?_)
  refine zb (rn_eqlN (i := x9.id) (j := 42)) ?_; intro A F
  refine zd ?_; intro A F
  refine wpList_nil (hK36 _ _ ?_)
  refine zc (fun hb37 => ?_) (fun hb37 => ?_)
  ·skip
   refine gx_region ?_
   iterate 2 (refine zd ?_; intro A F)
   refine zb (rn_neqN (i := x9.n) (j := 0)) ?_; intro A F
   refine zd ?_; intro A F
   refine zs [_] (#[(.int .u16 f0), (.int .u16 f1), (.int .i64 f2), (.int .u8 f3), (.bool f4), (.bool f5), (.bool f6), (.bool (!decide (x9.n = 0)))]) ?_; intro W H9 hk
   clear H hk; have H := H9; clear H9
   refine wpList_nil (hK18 _ _ ?_)
   refine gx_region ?_
   refine hz_do F rfl (ex_bin rfl (F.e rfl) gx_evc (rn_add (gx_wrap_i64 (by omega) (by omega)))) ?_; intro A F
   refine zd ?_; intro A F
   refine wpList_nil ?_
   exact hJ14 ((j + 1)) _ _ (by omega) ⟨f0, f1, f2, f3, f4, f5, f6, !decide (x9.n = 0), (((((F.nil.cons (gx_is (F.g 17 _ rfl) (by simp))).cons (F.g 16 _ rfl)).cons (F.g 15 _ rfl)).cons (F.g 5 _ rfl)).cons (F.g 4 _ rfl)), H.tl, by omega, drop_step hlt hx9 hf (by unfold stepL; rw [if_neg (of_decide_eq_false hb23), if_neg (of_decide_eq_false hb25), if_neg (of_decide_eq_false hb27), if_neg (of_decide_eq_false hb29), if_neg (of_decide_eq_false hb31), if_neg (of_decide_eq_false hb33), if_neg (of_decide_eq_false hb35), if_pos (of_decide_eq_true hb37)]; first | done | rfl)⟩
  refine wp_skip (hK18 _ _ ?_)
  refine gx_region ?_
  refine hz_do F rfl (ex_bin rfl (F.e rfl) gx_evc (rn_add (gx_wrap_i64 (by omega) (by omega)))) ?_; intro A F
  refine zd ?_; intro A F
  refine wpList_nil ?_
  exact hJ14 ((j + 1)) _ _ (by omega) ⟨f0, f1, f2, f3, f4, f5, f6, f7, (((((F.nil.cons (gx_is (F.g 17 _ rfl) (by simp))).cons (F.g 16 _ rfl)).cons (F.g 15 _ rfl)).cons (F.g 5 _ rfl)).cons (F.g 4 _ rfl)), H.tl, by omega, drop_step hlt hx9 hf (by unfold stepL; rw [if_neg (of_decide_eq_false hb23), if_neg (of_decide_eq_false hb25), if_neg (of_decide_eq_false hb27), if_neg (of_decide_eq_false hb29), if_neg (of_decide_eq_false hb31), if_neg (of_decide_eq_false hb33), if_neg (of_decide_eq_false hb35), if_neg (of_decide_eq_false hb37)]; first | done | rfl)⟩
 refine wp_exit ?_
 refine hK12 _ _ ?_
 refine wp_seq_k (fun K38 hK38 => gx_region ?_)
 refine hz_do F rfl (ex_load rfl (F.e rfl) (gl_agg (#[(.int .u16 f0), (.int .u16 f1), (.int .i64 f2), (.int .u8 f3), (.bool f4), (.bool f5), (.bool f6), (.bool f7)]) rfl (ga_33 _) (gs_33 _) (fun i => H.cs 0 rfl i))) ?_; intro A F
 obtain ⟨W9, hr, hB, hk⟩ := gx_storeAgg (P := Tryz.prog) (S := 33) (c := #[(.int .u16 f0), (.int .u16 f1), (.int .i64 f2), (.int .u8 f3), (.bool f4), (.bool f5), (.bool f6), (.bool f7)]) _ (H.b.at_ (j := 1) rfl).1 (gs_33 _) rfl (by simp [Value.oneCell'])
 refine hz_st (ex_store rfl (F.e rfl) (F.e rfl) hr) ?_; clear hr; replace H : Hp _ _ [_, _, _] := Hp.turn [_] H hk hB; clear hk hB
 refine wpList_nil (hK38 _ _ ?_)
 refine gx_ret ?_
 refine (show bodyPost _ Tryz.f8 RR Exit.ret _ _ from ?_)
 exact bodyPost_ret (fn := Tryz.f8) (gx_resc rfl (F.g 4 _ rfl) (gl_agg (#[(.int .u16 f0), (.int .u16 f1), (.int .i64 f2), (.int .u8 f3), (.bool f4), (.bool f5), (.bool f6), (.bool f7)]) rfl (ga_33 _) (gs_33 _) (fun i => H.cs 1 rfl i))) F.d (lmr (a := ⟨f0, f1, f2, f3, f4, f5, f6, f7⟩) (by rw [ofP_says, if_pos (show saysB v p = true from by have h8 := hb10; simpa using h8), ← hf, List.drop_of_length_le (by have h8 := of_decide_eq_false hb17; omega)]; rfl))
end Go.Proofs.YtbddcogjeahfeaaGreatDoor
