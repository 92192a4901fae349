import Derived.Test.YtbddcogjeahfeaaGreatDoorZLmC
namespace Go.Proofs.YtbddcogjeahfeaaGreatDoor
open Go.RowKit
set_option linter.unusedVariables false
set_option linter.unusedSimpArgs false
set_option maxRecDepth 100000
theorem eq_lm (l : Lm) (w : World) : Sem.run Tryz.prog (binOp .eql 31 (.agg #[.int .u16 l.rc, .int .u16 l.al, .int .i64 l.sz, .int .u8 l.q, .bool l.rt, .bool l.wi, .bool l.nu, .bool l.sh]) (.agg #[.int .u16 l.rc, .int .u16 l.al, .int .i64 l.sz, .int .u8 l.q, .bool l.rt, .bool l.wi, .bool l.nu, .bool l.sh])) w = .ok (.bool true) w := by
 have hS : Tryz.prog.underlying 31 = some (.struct (Tryz.prog.fieldsOf 31)) := by kernel_rfl
 have hp : Tryz.prog.stoodInHeld 31 = false := by kernel_rfl
 rw [run_eql_struct, show (10000 : Nat) = 9999 + 1 from rfl, run_equalIn_agg w 9999 31 _ _ hS hp]
 simp only [Program.fieldsOf, Tryz.underlying31]
 have u0 := Tryz.underlying5
 have u1 := Tryz.underlying22
 have u2 := Tryz.underlying3
 have u3 := Tryz.underlying4
 go_simp
theorem rn_lm (l : Lm) (w : World) {x y : Operand} : (do eqGuard .eql 31 x y (.agg #[.int .u16 l.rc, .int .u16 l.al, .int .i64 l.sz, .int .u8 l.q, .bool l.rt, .bool l.wi, .bool l.nu, .bool l.sh]) (.agg #[.int .u16 l.rc, .int .u16 l.al, .int .i64 l.sz, .int .u8 l.q, .bool l.rt, .bool l.wi, .bool l.nu, .bool l.sh]); binOp .eql 31 (.agg #[.int .u16 l.rc, .int .u16 l.al, .int .i64 l.sz, .int .u8 l.q, .bool l.rt, .bool l.wi, .bool l.nu, .bool l.sh]) (.agg #[.int .u16 l.rc, .int .u16 l.al, .int .i64 l.sz, .int .u8 l.q, .bool l.rt, .bool l.wi, .bool l.nu, .bool l.sh]) : Sem Value).run Tryz.prog w = .ok (.bool true) w := by
 have h := eq_lm l w
 simp [eqGuard, h]
set_option maxHeartbeats 4000000 in
theorem from13_any (l : Lm) (w : World) : Calls Tryz.prog 7 #[l.val] w fun e w' => e = .returned l.val ∧ Kept No w w' := by
 let RR : Ending → World → Prop := fun e w' => e = .returned l.val ∧ Kept No w w'
 go_enter Tryz.func7, Tryz.ntmps7
 generalize hA : ({ tmps := _, defers := [] } : Act) = A
 have F : Fr A 20 [(0, (.agg #[(.int .u16 l.rc), (.int .u16 l.al), (.int .i64 l.sz), (.int .u8 l.q), (.bool l.rt), (.bool l.wi), (.bool l.nu), (.bool l.sh)]))] := by rw [← hA]; exact (Fr.cons (i := 0) (v := (.agg #[(.int .u16 l.rc), (.int .u16 l.al), (.int .i64 l.sz), (.int .u8 l.q), (.bool l.rt), (.bool l.wi), (.bool l.nu), (.bool l.sh)])) (Fr.nil0 rfl rfl) rfl)
 clear hA; have H := Hp.start w
 refine wp_seq_k (fun K1 hK1 => gx_region ?_)
 refine hz_new (c := #[(.int .u16 l.rc), (.int .u16 l.al), (.int .i64 l.sz), (.int .u8 l.q), (.bool l.rt), (.bool l.wi), (.bool l.nu), (.bool l.sh)]) (t := 33) F H rfl (ex_box rfl (F.e rfl) (gx_box _ _)) ?_; clear F A; intro b2 W A hk hN H9 F; clear H; have H := H9; clear H9
 clear hk hN
 refine hz_new (c := #[(.int .u16 0), (.int .u16 0), (.int .i64 0), (.int .u8 0), (.bool false), (.bool false), (.bool false), (.bool false)]) (t := 31) F H rfl (ex_alloc rfl (al_31 _)) ?_; clear F A; intro b3 W A hk hN H9 F; clear H; have H := H9; clear H9
 clear hk hN
 refine wpList_nil (hK1 _ _ ?_)
 refine wp_seq_k (fun K4 hK4 => gx_region ?_)
 iterate 16 (refine zd ?_; intro A F)
 refine hz_do (v := (.agg #[(.int .u16 l.rc), (.int .u16 l.al), (.int .i64 l.sz), (.int .u8 l.q), (.bool l.rt), (.bool l.wi), (.bool l.nu), (.bool l.sh)])) F rfl (ex_build rfl (gx_p1 (F.e rfl) (gx_p1 (F.e rfl) (gx_p1 (F.e rfl) (gx_p1 (F.e rfl) (gx_p1 (F.e rfl) (gx_p1 (F.e rfl) (gx_p1 (F.e rfl) (gx_p1 (F.e rfl) gx_p0)))))))) (by kernel_rfl)) ?_; intro A F
 obtain ⟨W9, hr, hB, hk⟩ := gx_storeAgg (P := Tryz.prog) (S := 31) (c := #[(.int .u16 l.rc), (.int .u16 l.al), (.int .i64 l.sz), (.int .u8 l.q), (.bool l.rt), (.bool l.wi), (.bool l.nu), (.bool l.sh)]) _ (H.b.at_ (j := 0) rfl).1 (gs_31 _) rfl (by simp [Value.oneCell'])
 refine hz_st (ex_store rfl (F.e rfl) (F.e rfl) hr) ?_; clear hr; replace H : Hp _ _ [_, _] := Hp.turn [] H hk hB; clear hk hB
 refine wpList_nil (hK4 _ _ ?_)
 refine gx_ret ?_
 refine (show bodyPost _ Tryz.f7 RR Exit.ret _ _ from ?_)
 exact bodyPost_ret (fn := Tryz.f7) (gx_resc rfl (F.g 2 _ rfl) (gl_agg (#[(.int .u16 l.rc), (.int .u16 l.al), (.int .i64 l.sz), (.int .u8 l.q), (.bool l.rt), (.bool l.wi), (.bool l.nu), (.bool l.sh)]) rfl (ga_31 _) (gs_31 _) (fun i => H.cs 0 rfl i))) F.d (lmr (a := ⟨l.rc, l.al, l.sz, l.q, l.rt, l.wi, l.nu, l.sh⟩) rfl)
def tpk : Pk := { kind := 2, dup := false, retain := false, qos := 0, id := 0, clean := false, keep := 0, client := ⟨#[]⟩, hasWill := false, hasUser := false, hasPass := false, willQoS := 0, willRetain := false, willProps := [], willTopic := ⟨#[]⟩, willLoad := ⟨#[]⟩, user := ⟨#[]⟩, pass := ⟨#[]⟩, present := false, code := 0, topic := ⟨#[]⟩, load := ⟨#[]⟩, filters := [], codes := [], props := [⟨33, 5, ⟨#[]⟩, ⟨#[]⟩⟩, ⟨36, 1, ⟨#[]⟩, ⟨#[]⟩⟩] }
def tsl (b : Nat) : Sl := ⟨none, 0, none, 0, none, 0, some ⟨b, 0, none⟩, 2⟩
def tlm : Lm := ⟨5, 0, 268435460, 1, true, true, true, true⟩
theorem tpk_right : rightP 5 tpk = true := by decide +kernel
theorem tpk_of : ofP 5 tpk = tlm := by
 unfold ofP
 rw [if_pos ⟨rfl, .inr rfl, tpk_right⟩]
 decide +kernel
theorem tpk_at {w : World} {b : Nat} (hb : Blk w b 50 #[(.int .u8 33), (.int .u32 5), (.string ⟨#[]⟩), (.string ⟨#[]⟩), (.int .u8 36), (.int .u32 1), (.string ⟨#[]⟩), (.string ⟨#[]⟩)]) : tpk.At (tsl b) w := ⟨.nil _ _, .nil _ _, .nil _ _, .inr ⟨b, 0, rfl, hb.lt, fun j u hu => by
 rw [Nat.zero_add, hb.cell, ← Array.getElem?_toList]
 exact hu⟩⟩
theorem tpk_in {x : Pr} (h : x ∈ tpk.props) : x = ⟨33, 5, ⟨#[]⟩, ⟨#[]⟩⟩ ∨ x = ⟨36, 1, ⟨#[]⟩, ⟨#[]⟩⟩ := by simpa [tpk] using h
theorem tpk_fit : Fit tpk := ⟨⟨by decide, by decide, by decide, by decide⟩, ⟨by simp [tpk], fun x hx => by rcases tpk_in hx with rfl | rfl <;> exact ⟨by decide, by decide, by decide, by decide⟩⟩,
 ⟨by decide, by decide, by decide, by decide, by decide, by decide, by decide, by decide, by decide, by decide, by decide, by simp [tpk], fun x hx => by rcases tpk_in hx with rfl | rfl <;> exact ⟨by decide, by decide⟩, by simp [tpk]⟩, by decide, by decide, by decide, by decide, by decide, by simp [tpk]⟩
theorem told_of (b : Nat) (w : World) (hb : Blk w b 50 #[(.int .u8 33), (.int .u32 5), (.string ⟨#[]⟩), (.string ⟨#[]⟩), (.int .u8 36), (.int .u32 1), (.string ⟨#[]⟩), (.string ⟨#[]⟩)]) (hT : Tabs w) :
  Calls Tryz.prog 8 #[.int .i64 5, tpk.val (tsl b)] w fun e w' => e = .returned tlm.val ∧ Kept No w w' := by
 have h := of_any 5 tpk (tsl b) w (tpk_at hb) tpk_fit (by decide) hT
 rw [tpk_of] at h
 exact h
set_option maxHeartbeats 4000000 in
theorem told13_any (w : World) (hT : Tabs w) : Calls Tryz.prog 6 #[] w fun e w' => e = .returned (.bool true) ∧ Kept No w w' := by
 let RR : Ending → World → Prop := fun e w' => e = .returned (.bool true) ∧ Kept No w w'
 go_enter Tryz.func6, Tryz.ntmps6
 generalize hA : ({ tmps := _, defers := [] } : Act) = A
 have F : Fr A 30 [] := by rw [← hA]; exact (Fr.nil0 rfl rfl)
 clear hA; have H := Hp.start w
 refine wp_seq_k (fun K1 hK1 => gx_region ?_)
 refine zd ?_; intro A F
 refine wpList_nil (hK1 _ _ ?_)
 refine wp_seq_k (fun K2 hK2 => gx_region ?_)
 refine hz_do (v := (.agg #[(.int .u8 33), (.int .u32 5), (.string ⟨#[]⟩), (.string ⟨#[]⟩)])) F rfl (ex_build rfl (gx_p1 gx_evc (gx_p1 gx_evc gx_p0)) (by kernel_rfl)) ?_; intro A F
 refine hz_do (v := (.agg #[(.int .u8 36), (.int .u32 1), (.string ⟨#[]⟩), (.string ⟨#[]⟩)])) F rfl (ex_build rfl (gx_p1 gx_evc (gx_p1 gx_evc gx_p0)) (by kernel_rfl)) ?_; intro A F
 refine hz_bs (c := #[(.int .u8 33), (.int .u32 5), (.string ⟨#[]⟩), (.string ⟨#[]⟩), (.int .u8 36), (.int .u32 1), (.string ⟨#[]⟩), (.string ⟨#[]⟩)]) (t := 50) (m := 2) F H rfl (ex_buildSlice rfl (gx_p1 (F.e rfl) (gx_p1 (F.e rfl) gx_p0)) (by kernel_rfl)) ?_; clear F A; intro b3 W A hk hN H9 F; clear H; have H := H9; clear H9
 clear hk hN
 refine hz_do (v := (Pk.val tpk ((tsl b3)))) F rfl (ex_build rfl (gx_p1 gx_evc (gx_p1 (F.e rfl) gx_p0)) (by kernel_rfl)) ?_; intro A F
 refine hz_callk F H rfl (ex_call rfl rfl (gx_l1 gx_evc (gx_l1 (F.e rfl) gx_l0)) fn_8) (told_of b3 _ (H.b.at_ (j := 0) rfl).1 (hT.kept H.k)) ?_; clear F H A; intro W A hk H F
 clear hk
 refine hz_new (c := #[(.int .u16 0), (.int .u16 0), (.int .i64 0), (.int .u8 0), (.bool false), (.bool false), (.bool false), (.bool false)]) (t := 33) F H rfl (ex_alloc rfl (al_33 _)) ?_; clear F A; intro b5 W A hk hN H9 F; clear H; have H := H9; clear H9
 clear hk hN
 obtain ⟨W9, hr, hB, hk⟩ := gx_storeAgg (P := Tryz.prog) (S := 33) (c := #[(.int .u16 5), (.int .u16 0), (.int .i64 268435460), (.int .u8 1), (.bool true), (.bool true), (.bool true), (.bool true)]) _ (H.b.at_ (j := 0) rfl).1 (gs_33 _) rfl (by simp [Value.oneCell'])
 refine hz_st (ex_store rfl (F.e rfl) (F.e rfl) hr) ?_; clear hr; replace H : Hp _ _ [_, _] := Hp.turn [] H hk hB; clear hk hB
 refine wpList_nil (hK2 _ _ ?_)
 refine wp_seq_k (fun K6 hK6 => gx_region ?_)
 iterate 2 (refine zd ?_; intro A F)
 refine zb (rn_eql) ?_; intro A F
 refine zd ?_; intro A F
 refine hz_do1 F rfl (hw_t F rfl rfl rfl) (ex_faddr rfl (F.e rfl) (fa_33_3 _ _ _)) ?_; intro A F
 refine hz_do1 F rfl (hw_t F rfl rfl rfl) (ex_load rfl (F.e rfl) (gl_one (ag_5 _) (H.c 0 rfl rfl))) ?_; intro A F
 refine hz_do1 F rfl (hw_t F rfl rfl rfl) (ex_bin rfl (F.e rfl) gx_evc (rn_eql)) ?_; intro A F
 refine hz_do F rfl (ex_pickT rfl (F.e rfl) (F.e rfl)) ?_; intro A F
 refine zd ?_; intro A F
 refine hz_do1 F rfl (hw_t F rfl rfl rfl) (ex_faddr rfl (F.e rfl) (fa_33_1 _ _ _)) ?_; intro A F
 refine hz_do1 F rfl (hw_t F rfl rfl rfl) (ex_load rfl (F.e rfl) (gl_one (ag_22 _) (H.c 0 rfl rfl))) ?_; intro A F
 refine hz_do1 F rfl (hw_t F rfl rfl rfl) (ex_bin rfl (F.e rfl) gx_evc (rn_eql)) ?_; intro A F
 refine hz_do F rfl (ex_pickT rfl (F.e rfl) (F.e rfl)) ?_; intro A F
 refine zd ?_; intro A F
 refine hz_do1 F rfl (hw_t F rfl rfl rfl) (ex_faddr rfl (F.e rfl) (fa_33_4 _ _ _)) ?_; intro A F
 refine hz_do1 F rfl (hw_t F rfl rfl rfl) (ex_load rfl (F.e rfl) (gl_one (ag_4 _) (H.c 0 rfl rfl))) ?_; intro A F
 refine hz_do F rfl (ex_pickT rfl (F.e rfl) (F.e rfl)) ?_; intro A F
 refine zd ?_; intro A F
 refine hz_callk1 F H rfl (hw_t F rfl rfl rfl) (ex_call rfl rfl gx_l0 fn_13) (default_any _) ?_; clear F H A; intro W A hk H F
 clear hk
 refine hz_callk1 F H rfl (hw_t F rfl rfl rfl) (ex_call rfl rfl (gx_l1 (F.e rfl) gx_l0) fn_7) (from13_any .std _) ?_; clear F H A; intro W A hk H F
 clear hk
 refine hz_callk1 F H rfl (hw_t F rfl rfl rfl) (ex_call rfl rfl gx_l0 fn_12) (rdefault_any _) ?_; clear F H A; intro W A hk H F
 clear hk
 refine hz_do1 F rfl (hw_t F rfl rfl rfl) (ex_bin rfl (F.e rfl) (F.e rfl) (rn_lm .std _)) ?_; intro A F
 refine hz_do F rfl (ex_pickT rfl (F.e rfl) (F.e rfl)) ?_; intro A F
 refine zd ?_; intro A F
 refine wpList_nil (hK6 _ _ ?_)
 refine gx_ret ?_
 refine (show bodyPost _ Tryz.f6 RR Exit.ret _ _ from zr ?_)
 exact rb rfl
end Go.Proofs.YtbddcogjeahfeaaGreatDoor
