import Derived.Test.YtomppebamfpimaaGreatDoorYG3
namespace Go.Proofs.YtomppebamfpimaaGreatDoor
open Go.RowKit
set_option linter.unusedVariables false
set_option linter.unusedSimpArgs false
set_option maxRecDepth 100000
theorem cv9_i64 (n : Nat) (w : World) (h : n < 9223372036854775808) : (convert 46 3 (.int .u64 (n : Int))).run Tryz.prog w = .ok (.int .i64 (n : Int)) w := by
 have u := Tryz.underlying3
 have u2 := Tryz.underlying46
 have e : IntKind.i64.wrap (n : Int) = n := gx_wrap_i64 (by omega) (by omega)
 go_simp
 try exact e
theorem dVar {B : ByteArray} {w W : World} {T : Nat → Prop} {r : Nat} {S : Ts} (h : Rd B w T r S W) : Calls Tryz.prog 78 #[.pointer (some ⟨r, 0, none⟩)] W fun e w' => ∃ u S1, e = .returned u ∧ RdD B W r (.int .u32 (S.var : Int)) S.rdV S1 u w' :=
 (refvar_any W r B S.l S.e h.r).mono fun e w' q => ⟨_, _, q.1, rfl, rfl, Nat.le_trans (rdV_le _) h.n, q.2.rdr, q.2.kept⟩
theorem RefR.c2 {w : World} {r : Nat} {B : ByteArray} {l : List UInt8} {e : Int} (h : RefR w r B l e) : w.cell? ⟨r, 2, none⟩ = some (.int .i64 e) := by
 obtain ⟨a, hb, _⟩ := h
 simpa using hb.cell 2
theorem RefR.c1 {w : World} {r : Nat} {B : ByteArray} {l : List UInt8} {e : Int} (h : RefR w r B l e) (he : e = 0) : w.cell? ⟨r, 1, none⟩ = some (.int .i64 ((B.size : Int) - (l.length : Int))) := by
 obtain ⟨a, hb, h1, h2, h3, _⟩ := h
 have h4 : l.length = B.size - a := by rw [h3 he, List.length_drop, Array.length_toList]; rfl
 have h5 : ((B.size : Int) - (l.length : Int)) = (a : Int) := by omega
 rw [h5]
 simpa using hb.cell 1
theorem rv_take : ∀ (f i n : Nat) (l : List UInt8), f ≤ l.length → (rv f i n (l.take f) 0).1 = (rv f i n l 0).1 ∧ (rv f i n (l.take f) 0).2.2 = (rv f i n l 0).2.2 ∧ ((rv f i n l 0).2.2 = 0 → (rv f i n (l.take f) 0).2.1.length + (l.length - f) = (rv f i n l 0).2.1.length)
 | 0, i, n, l, _ => ⟨rfl, rfl, fun h => by cases h⟩
 | f + 1, i, n, [], h => by simp at h
 | f + 1, i, n, c :: t, h => by
  have hf : f ≤ t.length := by simpa using h
  have ih := fun i n => rv_take f i n t hf
  have t1 : ∀ x : List UInt8, taken 1 (c :: x) 0 = [c] := fun x => by unfold taken; rw [if_pos ⟨rfl, by decide, by simp only [List.length_cons]; omega⟩]; rfl
  have l1 : ∀ x : List UInt8, leftL 1 (c :: x) 0 = x := fun x => by unfold leftL; rw [if_pos rfl, if_pos ⟨by decide, by simp only [List.length_cons]; omega⟩]; rfl
  have e1 : ∀ x : List UInt8, leftE 1 (c :: x) 0 = 0 := fun x => by unfold leftE; rw [if_pos rfl, if_pos ⟨by decide, by simp only [List.length_cons]; omega⟩]
  rw [List.take_succ_cons]
  by_cases h1 : 128 ≤ num [c]
  ·rw [rv_more (e1 _) (by rw [t1]; exact h1), rv_more (e1 _) (by rw [t1]; exact h1), t1, t1, l1, l1, e1, e1]
   have := ih (i + 1) (n + num [c] % 128 * 128 ^ i)
   refine ⟨this.1, this.2.1, fun h9 => ?_⟩
   have h8 := this.2.2 h9
   simp only [List.length_cons]
   omega
  ·by_cases h2 : num [c] = 0 ∧ 0 < i
   ·rw [rv_zero (e1 _) (by rw [t1]; exact h2.1) h2.2, rv_zero (e1 _) (by rw [t1]; exact h2.1) h2.2]
    exact ⟨rfl, rfl, fun h => by cases h⟩
   ·rw [rv_done (e1 _) (by rw [t1]; omega) (by rw [t1]; exact h2), rv_done (e1 _) (by rw [t1]; omega) (by rw [t1]; exact h2), t1, t1, l1, l1, e1, e1]
    refine ⟨rfl, rfl, fun _ => ?_⟩
    simp only [List.length_take, List.length_cons]
    omega
theorem head_full (l : List UInt8) : headE l = (headS l).2.2 ∧ ((headS l).2.2 = 0 → headB l = ⟨((num (taken 1 l 0) / 16 : Nat) : Int), num (taken 1 l 0) % 16, (l.length : Int) - ((headS l).2.1.length : Int), (headS l).1⟩) := by
 by_cases h5 : l.length ≤ 5
 ·have e : l.take 5 = l := List.take_of_length_le h5
  have hE : headE l = (headS l).2.2 := by unfold headE; rw [e]
  refine ⟨hE, fun h => ?_⟩
  unfold headB
  rw [if_pos (hE.trans h), e]
 ·obtain ⟨c, t, rfl⟩ : ∃ c t, l = c :: t := by
   cases l with
   | nil => simp at h5
   | cons c t => exact ⟨c, t, rfl⟩
  have ht : 4 ≤ t.length := by simp at h5; omega
  have t1 : ∀ x : List UInt8, taken 1 (c :: x) 0 = [c] := fun x => by unfold taken; rw [if_pos ⟨rfl, by decide, by simp only [List.length_cons]; omega⟩]; rfl
  have l1 : ∀ x : List UInt8, leftL 1 (c :: x) 0 = x := fun x => by unfold leftL; rw [if_pos rfl, if_pos ⟨by decide, by simp only [List.length_cons]; omega⟩]; rfl
  have e1 : ∀ x : List UInt8, leftE 1 (c :: x) 0 = 0 := fun x => by unfold leftE; rw [if_pos rfl, if_pos ⟨by decide, by simp only [List.length_cons]; omega⟩]
  have h9 := rv_take 4 0 0 t ht
  have hS : ∀ x, headS (c :: x) = rv 4 0 0 x 0 := fun x => by unfold headS; rw [l1, e1]
  have hE : headE (c :: t) = (headS (c :: t)).2.2 := by
   unfold headE
   rw [List.take_succ_cons, hS, hS]
   exact h9.2.1
  refine ⟨hE, fun h => ?_⟩
  have h8 := h9.2.2 (by rw [hS] at h; exact h)
  unfold headB
  rw [if_pos (hE.trans h), List.take_succ_cons, hS, hS, t1, t1, h9.1]
  congr 1
  simp only [List.length_cons, List.length_take]
  omega
set_option maxHeartbeats 4000000 in
theorem rhead_any9 (a : Option Addr) (c : Nat) (l : List UInt8) (w : World) (hr : Row w a (B8 l)) (hn : a = none → l.length = 0 ∧ c = 0) (hl : l.length ≤ 100000) : Calls Tryz.prog 29 #[.slice a l.length c] w fun e w' => e = .returned (.tuple #[.agg #[.int .i64 (headB l).kind, .int .u8 ((headB l).flags : Int), .int .i64 (headB l).head, .int .i64 ((headB l).rest : Int)], .int .i64 (headE l)]) ∧ Kept No w w' := by
 let RR : Ending → World → Prop := fun e w' => e = .returned (.tuple #[.agg #[.int .i64 (headB l).kind, .int .u8 ((headB l).flags : Int), .int .i64 (headB l).head, .int .i64 ((headB l).rest : Int)], .int .i64 (headE l)]) ∧ Kept No w w'
 go_enter Tryz.func29, Tryz.ntmps29
 generalize hA : ({ tmps := _, defers := [] } : Act) = A
 have F : Fr A 38 [(0, (.slice a l.length c))] := by rw [← hA]; exact (Fr.cons (i := 0) (v := (.slice a l.length c)) (Fr.nil0 rfl rfl) rfl)
 clear hA; have H := Hp.start w
 refine wp_seq_k (fun K1 hK1 => gx_region ?_)
 refine hz_new (c := #[(.int .i64 0), (.int .u8 0), (.int .i64 0), (.int .i64 0)]) (t := 55) F H rfl (ex_alloc rfl (al_55 _)) ?_; clear F A; intro hb W A hk hN H9 F; clear H; have H := H9; clear H9
 clear hk hN
 refine zd ?_; intro A F
 refine wpList_nil (hK1 _ _ ?_)
 refine wp_seq_k (fun K2 hK2 => gx_region ?_)
 refine zd ?_; intro A F
 refine hz_do F rfl (ex_conv rfl (F.e rfl) (str_at (Lib.hid rfl) (hr.keptNo H.k) c (fun h => (hn h).2))) ?_; intro A F
 refine hz_do (v := (.agg #[(.string ((⟨l.toArray⟩ : ByteArray))), (.int .i64 0), (.int .i64 0)])) F rfl (ex_build rfl (gx_p1 (F.e rfl) gx_p0) (by kernel_rfl)) ?_; intro A F
 refine hz_new (c := #[(.string ((⟨l.toArray⟩ : ByteArray))), (.int .i64 0), (.int .i64 0)]) (t := 122) F H rfl (ex_box rfl (F.e rfl) (gx_box _ _)) ?_; clear F A; intro r W A hk hN H9 F; clear H; have H := H9; clear H9
 clear hk hN
 refine zd ?_; intro A F
 refine wpList_nil (hK2 _ _ ?_)
 refine wp_seq_k (fun K3 hK3 => ?_)
 obtain ⟨hrb, hr0⟩ := H.b.at_ (j := 0) rfl
 obtain ⟨B, hB⟩ : ∃ B : ByteArray, B = ⟨l.toArray⟩ := ⟨_, rfl⟩
 have hBs : B.size = l.length := by rw [hB, ba_size]
 obtain ⟨S0, hS0⟩ : ∃ S0 : Ts, S0 = ⟨l, 0, false⟩ := ⟨_, rfl⟩
 have hRf : RefR _ r B S0.l S0.e := ⟨0, by rw [hB, hS0]; exact hrb, Nat.zero_le _, by omega, fun _ => by rw [hB, hS0]; simp, fun h => absurd (by rw [hS0]) h⟩
 have hZ : Rd B w (fun _ => True) r S0 _ := ⟨by rw [hS0]; exact hl, hRf, H.k.mono (fun _ _ f => f.elim)⟩
 replace H := H.tl; clear hRf hrb
 have hn8 := num1_lt S0
 refine gx_region ?_
 refine zd ?_; intro A F
 refine hz_callX (fun (x : Ts) => [⟨hb, 55, #[(.int .i64 0), (.int .u8 0), (.int .i64 0), (.int .i64 0)]⟩]) (RdD B _ r (.int .u64 ((S0.num 1 : Int))) (S0.rd 1)) F rfl (ex_call rfl rfl (gx_l1 (F.e rfl) (gx_l1 gx_evc gx_l0)) fn_77) (dNum 1 (by decide) (by decide) hZ) (fun S4 _ _ h => Hp.re H (h.2.2.k) (fun i9 (e9 : i9 = r) => by rw [e9]; exact hr0) ⟨⟨rfl, fun hb => hb.kept (h.2.2.k) (mT1 hZ.r.blk (show 55 ≠ 122 by decide) hb)⟩, trivial⟩) ?_; clear F H A; intro S4 vv W A hR H F; obtain ⟨rfl, hS4, hZ9⟩ := hR
 replace H : Hp w _ [⟨hb, 55, #[(.int .i64 0), (.int .u8 0), (.int .i64 0), (.int .i64 0)]⟩] := H
 replace hZ := hZ.step hZ9 (fun _ _ => trivial); clear hZ9
 refine hz_do (v := (.int .i64 ((S0.num 1 : Int)))) F rfl (ex_conv rfl (F.e rfl) (cv9_i64 _ _ (by omega))) ?_; intro A F
 refine zd ?_; intro A F
 refine wpList_nil (hK3 _ _ ?_)
 refine wp_seq_k (fun K5 hK5 => gx_region ?_)
 refine zd ?_; intro A F
 refine hz_callX (fun (x : Ts) => [⟨hb, 55, #[(.int .i64 0), (.int .u8 0), (.int .i64 0), (.int .i64 0)]⟩]) (RdD B _ r (.int .u32 ((S4.var : Int))) S4.rdV) F rfl (ex_call rfl rfl (gx_l1 (F.e rfl) gx_l0) fn_78) (dVar hZ) (fun S6 _ _ h => Hp.re H (h.2.2.k) (fun i9 (e9 : i9 = r) => by rw [e9]; exact hr0) ⟨⟨rfl, fun hb => hb.kept (h.2.2.k) (mT1 hZ.r.blk (show 55 ≠ 122 by decide) hb)⟩, trivial⟩) ?_; clear F H A; intro S6 vv W A hR H F; obtain ⟨rfl, hS6, hZ9⟩ := hR
 replace H : Hp w _ [⟨hb, 55, #[(.int .i64 0), (.int .u8 0), (.int .i64 0), (.int .i64 0)]⟩] := H
 replace hZ := hZ.step hZ9 (fun _ _ => trivial); clear hZ9
 refine zd ?_; intro A F
 refine wpList_nil (hK5 _ _ ?_)
 refine wp_seq_k (fun K7 hK7 => ?_)
 refine wp_seq_k (fun K8 hK8 => gx_region ?_)
 refine zd ?_; intro A F
 refine hz_do F rfl (ex_nil rfl (F.e rfl)) ?_; intro A F
 refine hz_fld F rfl rfl (F.e rfl) (fa_122_2 _ _ _) (ag_3 _) (hZ.r.c2) ?_; intro A F
 refine zb (rn_neq) ?_; intro A F
 refine wpList_nil (hK8 _ _ ?_)
 refine zc (fun hb9 => ?_) (fun hb9 => ?_)
 ·skip
  replace F := (((((F.nil.cons (F.g 6 _ rfl)).cons (F.g 5 _ rfl)).cons (F.g 4 _ rfl)).cons (F.g 3 _ rfl)).cons (F.g 2 _ rfl))
  refine wp_seq_k (fun K10 hK10 => ?_)
  refine wp_region_held_drew (S := fun wx => ∃ c9, Hp _ wx [⟨hb, 55, c9⟩]) (by kernel_rfl) ⟨_, H.drew⟩ (fun H9 => ?_); clear H9; replace H := H.drew
  replace hZ := hZ.no (Kept.refl No _).drew
  generalize World.drew _ = W at *
  refine hzh_do (v := (.agg #[(.int .i64 0), (.int .u8 0), (.int .i64 0), (.int .i64 0)])) (i := 0) F rfl rfl (by kernel_rfl) (fun _ _ _ h => h) (⟨_, H⟩) (fun wz ⟨c9, H⟩ => (ex_build rfl gx_p0 (by kernel_rfl))) ?_; intro A F
  refine td 1 ?_; intro A F
  refine hzh_do (v := (.pointer (some ⟨r, 0, none⟩))) (i := 2) F rfl rfl (by kernel_rfl) (fun _ _ _ h => h) (⟨_, H⟩) (fun wz ⟨c9, H⟩ => (ex_nil rfl (F.e rfl))) ?_; intro A F
  refine td 3 ?_; intro A F
  refine hb_two (i := 4) (j := 5) (by kernel_rfl) ?_ ?_
  ·skip
   refine hb_new (v := (.int .i64 S6.e)) (i := 4) F rfl rfl (ex_load rfl (F.e rfl) (gl_one (ag_3 _) (hZ.r.c2))) (⟨_, H⟩) ?_; intro A F
   obtain ⟨W9, hr, hB, hk⟩ := gx_storeAgg (P := Tryz.prog) (S := 55) (c := #[(.int .i64 0), (.int .u8 0), (.int .i64 0), (.int .i64 0)]) _ (H.b.at_ (j := 0) rfl).1 (gs_55 _) rfl (by simp [Value.oneCell'])
   replace hZ := hZ.st (H.b.at_ (j := 0) rfl).1 (show 55 ≠ 5 by decide) (show 55 ≠ 122 by decide) (.inr trivial) hk
   replace H : Hp _ _ [_] := Hp.turn [] H hk hB; clear hk hB
   refine hb_one (i := 5) (by kernel_rfl) (hb_st (i := 5) rfl (ex_store rfl (F.e rfl) (F.e rfl) hr) (⟨_, H⟩) ?_); clear hr
   refine td 6 ?_; intro A F
   refine wpAnyH_done (by kernel_rfl) ?_ _
   refine hK10 _ _ ?_
   refine gx_ret ?_
   refine (show bodyPost _ Tryz.f29 RR Exit.ret _ _ from ?_)
   exact bodyPost_ret (gx_resc2 rfl (F.g 2 _ rfl) (F.g 3 _ rfl) (gl_agg (#[(.int .i64 0), (.int .u8 0), (.int .i64 0), (.int .i64 0)]) rfl (ga_55 _) (gs_55 _) (fun i => H.cs 0 rfl i))) F.d ((by have hE : headE l = S6.e := (by rw [(head_full l).1]; subst hS6 hS4; subst hS0; rfl); have hB9 : headB l = ⟨0, 0, 0, 0⟩ := if_neg (by rw [hE]; have h9 : (!decide (S6.e = 0)) = true := hb9; simpa using h9); exact ⟨by first | (rw [hB9, hE]; done) | (rw [hB9, hE]; rfl), H.k⟩))
  ·skip
   obtain ⟨W9, hr, hB, hk⟩ := gx_storeAgg (P := Tryz.prog) (S := 55) (c := #[(.int .i64 0), (.int .u8 0), (.int .i64 0), (.int .i64 0)]) _ (H.b.at_ (j := 0) rfl).1 (gs_55 _) rfl (by simp [Value.oneCell'])
   replace hZ := hZ.st (H.b.at_ (j := 0) rfl).1 (show 55 ≠ 5 by decide) (show 55 ≠ 122 by decide) (.inr trivial) hk
   replace H : Hp _ _ [_] := Hp.turn [] H hk hB; clear hk hB
   refine hb_st (i := 5) rfl (ex_store rfl (F.e rfl) (F.e rfl) hr) (⟨_, H⟩) ?_; clear hr
   refine hb_one (i := 4) (by kernel_rfl) (hb_new (v := (.int .i64 S6.e)) (i := 4) F rfl rfl (ex_load rfl (F.e rfl) (gl_one (ag_3 _) (hZ.r.c2))) (⟨_, H⟩) ?_); intro A F
   refine td 6 ?_; intro A F
   refine wpAnyH_done (by kernel_rfl) ?_ _
   refine hK10 _ _ ?_
   refine gx_ret ?_
   refine (show bodyPost _ Tryz.f29 RR Exit.ret _ _ from ?_)
   exact bodyPost_ret (gx_resc2 rfl (F.g 2 _ rfl) (F.g 3 _ rfl) (gl_agg (#[(.int .i64 0), (.int .u8 0), (.int .i64 0), (.int .i64 0)]) rfl (ga_55 _) (gs_55 _) (fun i => H.cs 0 rfl i))) F.d ((by have hE : headE l = S6.e := (by rw [(head_full l).1]; subst hS6 hS4; subst hS0; rfl); have hB9 : headB l = ⟨0, 0, 0, 0⟩ := if_neg (by rw [hE]; have h9 : (!decide (S6.e = 0)) = true := hb9; simpa using h9); exact ⟨by first | (rw [hB9, hE]; done) | (rw [hB9, hE]; rfl), H.k⟩))
 replace F := (((((F.nil.cons (F.g 6 _ rfl)).cons (F.g 5 _ rfl)).cons (F.g 4 _ rfl)).cons (F.g 3 _ rfl)).cons (F.g 2 _ rfl))
 refine wp_skip (hK7 _ _ ?_)
 refine wp_seq_k (fun K11 hK11 => ?_)
 have h80 : S6.e = 0 := (by have h9 : (!decide (S6.e = 0)) = false := hb9; simpa using h9)
 refine gx_region ?_
 refine zd ?_; intro A F
 refine hz_do F rfl (ex_bin rfl (F.e rfl) gx_evc (rn_quoN (i := S0.num 1) (j := 16) (by decide) (gx_wrap_i64 (by omega) (by omega)))) ?_; intro A F
 refine zd ?_; intro A F
 refine zb (rn_remN (i := S0.num 1) (j := 16) (by decide)) ?_; intro A F
 refine hz_do (v := (.int .u8 (((S0.num 1 % 16 : Nat) : Int)))) F rfl (ex_conv rfl (F.e rfl) (cvI8 _ _ (by omega) (by omega))) ?_; intro A F
 refine zd ?_; intro A F
 refine hz_do F rfl (ex_nil rfl (F.e rfl)) ?_; intro A F
 refine hz_fld F rfl rfl (F.e rfl) (fa_122_1 _ _ _) (ag_3 _) (hZ.r.c1 h80) ?_; intro A F
 refine zd ?_; intro A F
 refine hz_do (v := (.int .i64 ((S4.var : Int)))) F rfl (ex_conv rfl (F.e rfl) (cv9_32 _ _ (by have := var_lt9 S4; omega))) ?_; intro A F
 refine hz_do (v := (.agg #[(.int .i64 ((((S0.num 1) / 16 : Nat) : Int))), (.int .u8 (((S0.num 1 % 16 : Nat) : Int))), (.int .i64 (((B.size : Int) - (S6.l.length : Int)))), (.int .i64 ((S4.var : Int)))])) F rfl (ex_build rfl (gx_p1 (F.e rfl) (gx_p1 (F.e rfl) (gx_p1 (F.e rfl) (gx_p1 (F.e rfl) gx_p0)))) (by kernel_rfl)) ?_; intro A F
 obtain ⟨W9, hr, hB, hk⟩ := gx_storeAgg (P := Tryz.prog) (S := 55) (c := #[(.int .i64 ((((S0.num 1) / 16 : Nat) : Int))), (.int .u8 (((S0.num 1 % 16 : Nat) : Int))), (.int .i64 (((B.size : Int) - (S6.l.length : Int)))), (.int .i64 ((S4.var : Int)))]) _ (H.b.at_ (j := 0) rfl).1 (gs_55 _) rfl (by simp [Value.oneCell'])
 replace hZ := hZ.st (H.b.at_ (j := 0) rfl).1 (show 55 ≠ 5 by decide) (show 55 ≠ 122 by decide) (.inr trivial) hk
 refine hz_st (ex_store rfl (F.e rfl) (F.e rfl) hr) ?_; clear hr; replace H : Hp _ _ [_] := Hp.turn [] H hk hB; clear hk hB
 refine zd ?_; intro A F
 refine wpList_nil (hK11 _ _ ?_)
 refine gx_ret ?_
 refine (show bodyPost _ Tryz.f29 RR Exit.ret _ _ from ?_)
 exact bodyPost_ret (gx_resc2 rfl (F.g 2 _ rfl) (F.g 3 _ rfl) (gl_agg (#[(.int .i64 ((((S0.num 1) / 16 : Nat) : Int))), (.int .u8 (((S0.num 1 % 16 : Nat) : Int))), (.int .i64 (((B.size : Int) - (S6.l.length : Int)))), (.int .i64 ((S4.var : Int)))]) rfl (ga_55 _) (gs_55 _) (fun i => H.cs 0 rfl i))) F.d ((by have hE : headE l = S6.e := (by rw [(head_full l).1]; subst hS6 hS4; subst hS0; rfl); have hB9 : headB l = ⟨((S0.num 1 / 16 : Nat) : Int), S0.num 1 % 16, (B.size : Int) - (S6.l.length : Int), S4.var⟩ := (by have h7 := (head_full l).2 (by rw [← (head_full l).1, hE, h80]); rw [h7, hBs]; subst hS6 hS4; subst hS0; rfl); exact ⟨by first | (rw [hB9, hE, h80]; done) | (rw [hB9, hE, h80]; rfl), H.k⟩))
set_option maxHeartbeats 4000000 in
theorem decodeHeads_walk (a : Option Addr) (c : Nat) (l : List UInt8) (w : World) (hr : Row w a (B8 l)) (hn : a = none → l.length = 0 ∧ c = 0) (hc : l.length ≤ c) (hm : l.length ≤ 9223372036854775807) (hT : Tabs w) :
  Calls Tryz.prog 7 #[.slice a l.length c] w fun e w' => e = .returned (.bool true) ∧ Below w.heap.size w w' := by
 let RR : Ending → World → Prop := fun e w' => e = .returned (.bool true) ∧ Below w.heap.size w w'
 go_enter Tryz.func7, Tryz.ntmps7
 generalize hA : ({ tmps := _, defers := [] } : Act) = A
 have F : Fr A 56 [(0, (.slice a l.length c))] := by rw [← hA]; exact (Fr.cons (i := 0) (v := (.slice a l.length c)) (Fr.nil0 rfl rfl) rfl)
 clear hA; have H := Hp.start w
 refine wp_seq_k (fun K1 hK1 => gx_region ?_)
 refine zd ?_; intro A F
 refine wpList_nil (hK1 _ _ ?_)
 refine wp_seq_k (fun K2 hK2 => gx_region ?_)
 iterate 2 (refine zd ?_; intro A F)
 refine hz_do F rfl (ex_len rfl (gx_l1 (F.e rfl) gx_l0) (rn_lens Tryz.underlying25)) ?_; intro A F
 refine hz_do F rfl (ex_minN rfl (gx_l1 (F.e rfl) (gx_l1 gx_evc gx_l0))) ?_; intro A F
 obtain ⟨a5, c5, hsl, hr5, hn5, hc5⟩ := slice_take (hr.keptNo H.k) hn hc 12
 have hl5 : (l.take 12).length ≤ 12 := by rw [List.length_take]; omega
 generalize l.take 12 = L at *
 refine hz_do (v := (.slice a5 L.length c5)) F rfl (ex_slice rfl (F.e rfl) rfl (congrArg some (F.e rfl)) rfl hsl) ?_; intro A F
 refine zd ?_; intro A F
 refine wpList_nil (hK2 _ _ ?_)
 refine wp_seq_k (fun K3 hK3 => gx_region ?_)
 refine zd ?_; intro A F
 refine hz_callk F H rfl (ex_call rfl rfl (gx_l1 (F.e rfl) gx_l0) fn_28) (head_any9 a5 c5 L _ (hr5.keptNo H.k) hn5 hc5) ?_; clear F H A; intro W A hk H F
 clear hk
 iterate 3 (refine zd ?_; intro A F)
 refine hz_new (c := #[(.int .i64 0), (.int .u8 0), (.int .i64 0), (.int .i64 0)]) (t := 52) F H rfl (ex_alloc rfl (al_52 _)) ?_; clear F A; intro b5 W A hk hN H9 F; clear H; have H := H9; clear H9
 clear hk hN
 obtain ⟨W9, hr, hB, hk⟩ := gx_storeAgg (P := Tryz.prog) (S := 52) (c := #[(.int .i64 ((headB L).kind)), (.int .u8 (((headB L).flags : Int))), (.int .i64 ((headB L).head)), (.int .i64 (((headB L).rest : Int)))]) _ (H.b.at_ (j := 0) rfl).1 (gs_52 _) rfl (by simp [Value.oneCell'])
 refine hz_st (ex_store rfl (F.e rfl) (F.e rfl) hr) ?_; clear hr; replace H : Hp _ _ [_] := Hp.turn [] H hk hB; clear hk hB
 refine zd ?_; intro A F
 refine wpList_nil (hK3 _ _ ?_)
 refine wp_seq_k (fun K6 hK6 => gx_region ?_)
 refine zd ?_; intro A F
 refine hz_callk F H rfl (ex_call rfl rfl (gx_l1 (F.e rfl) gx_l0) fn_29) (rhead_any9 a5 c5 L _ (hr5.keptNo H.k) hn5 (by omega)) ?_; clear F H A; intro W A hk H F
 clear hk
 iterate 3 (refine zd ?_; intro A F)
 refine hz_new (c := #[(.int .i64 0), (.int .u8 0), (.int .i64 0), (.int .i64 0)]) (t := 55) F H rfl (ex_alloc rfl (al_55 _)) ?_; clear F A; intro b8 W A hk hN H9 F; clear H; have H := H9; clear H9
 clear hk hN
 obtain ⟨W9, hr, hB, hk⟩ := gx_storeAgg (P := Tryz.prog) (S := 55) (c := #[(.int .i64 ((headB L).kind)), (.int .u8 (((headB L).flags : Int))), (.int .i64 ((headB L).head)), (.int .i64 (((headB L).rest : Int)))]) _ (H.b.at_ (j := 0) rfl).1 (gs_55 _) rfl (by simp [Value.oneCell'])
 refine hz_st (ex_store rfl (F.e rfl) (F.e rfl) hr) ?_; clear hr; replace H : Hp _ _ [_, _] := Hp.turn [] H hk hB; clear hk hB
 refine zd ?_; intro A F
 refine wpList_nil (hK6 _ _ ?_)
 refine wp_seq_k (fun K9 hK9 => gx_region ?_)
 refine hz_callk F H rfl (ex_call rfl rfl gx_l0 fn_30) (told9_any _ (hT.kept H.k)) ?_; clear F H A; intro W A hk H F
 clear hk
 refine zd ?_; intro A F
 refine hz_do1 F rfl (hw_t F rfl rfl rfl) (ex_move rfl (F.e rfl)) ?_; intro A F
 refine hz_do1 F rfl (hw_t F rfl rfl rfl) (ex_move rfl (F.e rfl)) ?_; intro A F
 refine hz_do1 F rfl (hw_t F rfl rfl rfl) (ex_bin rfl (F.e rfl) (F.e rfl) (rn_eql)) ?_; intro A F
 have hr11 : (decide ((headE L) = (headE L))) = true := (by simp)
 replace F := F.hd (congrArg Value.bool hr11)
 refine hz_do F rfl (ex_pickT rfl (F.e rfl) (F.e rfl)) ?_; intro A F
 refine zd ?_; intro A F
 refine hz_do1 F rfl (hw_t F rfl rfl rfl) (ex_faddr rfl (F.e rfl) (fa_52_0 _ _ _)) ?_; intro A F
 refine hz_do1 F rfl (hw_t F rfl rfl rfl) (ex_load rfl (F.e rfl) (gl_one (ag_3 _) (H.c 1 rfl rfl))) ?_; intro A F
 refine hz_do1 F rfl (hw_t F rfl rfl rfl) (ex_faddr rfl (F.e rfl) (fa_55_0 _ _ _)) ?_; intro A F
 refine hz_do1 F rfl (hw_t F rfl rfl rfl) (ex_load rfl (F.e rfl) (gl_one (ag_3 _) (H.c 0 rfl rfl))) ?_; intro A F
 refine hz_do1 F rfl (hw_t F rfl rfl rfl) (ex_bin rfl (F.e rfl) (F.e rfl) (rn_eql)) ?_; intro A F
 have hr12 : (decide ((headB L).kind = (headB L).kind)) = true := (by simp)
 replace F := F.hd (congrArg Value.bool hr12)
 refine hz_do F rfl (ex_pickT rfl (F.e rfl) (F.e rfl)) ?_; intro A F
 refine zd ?_; intro A F
 refine hz_do1 F rfl (hw_t F rfl rfl rfl) (ex_faddr rfl (F.e rfl) (fa_52_1 _ _ _)) ?_; intro A F
 refine hz_do1 F rfl (hw_t F rfl rfl rfl) (ex_load rfl (F.e rfl) (gl_one (ag_5 _) (H.c 1 rfl rfl))) ?_; intro A F
 refine hz_do1 F rfl (hw_t F rfl rfl rfl) (ex_faddr rfl (F.e rfl) (fa_55_1 _ _ _)) ?_; intro A F
 refine hz_do1 F rfl (hw_t F rfl rfl rfl) (ex_load rfl (F.e rfl) (gl_one (ag_5 _) (H.c 0 rfl rfl))) ?_; intro A F
 refine hz_do1 F rfl (hw_t F rfl rfl rfl) (ex_bin rfl (F.e rfl) (F.e rfl) (rn_eqlN (i := (headB L).flags) (j := (headB L).flags))) ?_; intro A F
 have hr13 : (decide ((headB L).flags = (headB L).flags)) = true := (by simp)
 replace F := F.hd (congrArg Value.bool hr13)
 refine hz_do F rfl (ex_pickT rfl (F.e rfl) (F.e rfl)) ?_; intro A F
 refine zd ?_; intro A F
 refine hz_do1 F rfl (hw_t F rfl rfl rfl) (ex_faddr rfl (F.e rfl) (fa_52_2 _ _ _)) ?_; intro A F
 refine hz_do1 F rfl (hw_t F rfl rfl rfl) (ex_load rfl (F.e rfl) (gl_one (ag_3 _) (H.c 1 rfl rfl))) ?_; intro A F
 refine hz_do1 F rfl (hw_t F rfl rfl rfl) (ex_faddr rfl (F.e rfl) (fa_55_2 _ _ _)) ?_; intro A F
 refine hz_do1 F rfl (hw_t F rfl rfl rfl) (ex_load rfl (F.e rfl) (gl_one (ag_3 _) (H.c 0 rfl rfl))) ?_; intro A F
 refine hz_do1 F rfl (hw_t F rfl rfl rfl) (ex_bin rfl (F.e rfl) (F.e rfl) (rn_eql)) ?_; intro A F
 have hr14 : (decide ((headB L).head = (headB L).head)) = true := (by simp)
 replace F := F.hd (congrArg Value.bool hr14)
 refine hz_do F rfl (ex_pickT rfl (F.e rfl) (F.e rfl)) ?_; intro A F
 refine zd ?_; intro A F
 refine hz_do1 F rfl (hw_t F rfl rfl rfl) (ex_faddr rfl (F.e rfl) (fa_52_3 _ _ _)) ?_; intro A F
 refine hz_do1 F rfl (hw_t F rfl rfl rfl) (ex_load rfl (F.e rfl) (gl_one (ag_3 _) (H.c 1 rfl rfl))) ?_; intro A F
 refine hz_do1 F rfl (hw_t F rfl rfl rfl) (ex_faddr rfl (F.e rfl) (fa_55_3 _ _ _)) ?_; intro A F
 refine hz_do1 F rfl (hw_t F rfl rfl rfl) (ex_load rfl (F.e rfl) (gl_one (ag_3 _) (H.c 0 rfl rfl))) ?_; intro A F
 refine hz_do1 F rfl (hw_t F rfl rfl rfl) (ex_bin rfl (F.e rfl) (F.e rfl) (rn_eqlN (i := (headB L).rest) (j := (headB L).rest))) ?_; intro A F
 have hr15 : (decide ((headB L).rest = (headB L).rest)) = true := (by simp)
 replace F := F.hd (congrArg Value.bool hr15)
 refine hz_do F rfl (ex_pickT rfl (F.e rfl) (F.e rfl)) ?_; intro A F
 refine zd ?_; intro A F
 refine wpList_nil (hK9 _ _ ?_)
 refine gx_ret ?_
 refine (show bodyPost _ Tryz.f7 RR Exit.ret _ _ from zr ?_)
 exact ⟨by first | rfl | simp, H.k.below (Nat.le_refl _) (fun _ _ f9 => f9)⟩
theorem decodeHeads_full (a0 : Option Addr) (len0 cap0 : Nat) (z0 : List Int) (w : World) (w0 : IsRow .u8 w a0 len0 cap0 z0) (hT : Tabs w) :
  Calls Tryz.prog 7 #[.slice a0 len0 cap0] w fun e w' => e = .returned (.bool true) ∧ Below w.heap.size w w' := by
 obtain ⟨hrow, hlen, hlc, hcm, hn, hwf⟩ := w0.row
 rw [ints_bytes hwf] at hrow
 have hlen' : ((z0.take len0).map byteOf).length = len0 := by simpa using hlen
 generalize (z0.take len0).map byteOf = l at *
 subst hlen'
 unfold maxLen at hcm
 exact decodeHeads_walk a0 cap0 l w hrow (fun h => by have := hn h; omega) (by omega) (by omega) hT
end Go.Proofs.YtomppebamfpimaaGreatDoor
