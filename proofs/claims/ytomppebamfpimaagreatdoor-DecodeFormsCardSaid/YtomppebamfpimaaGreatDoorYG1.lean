import Derived.Test.YtomppebamfpimaaGreatDoorYFZ
import Derived.Test.YtomppebamfpimaaGreatDoorYFT
import Derived.Test.YtomppebamfpimaaGreatDoorYFY
namespace Go.Proofs.YtomppebamfpimaaGreatDoor
open Go.RowKit
set_option linter.unusedVariables false
set_option linter.unusedSimpArgs false
set_option maxRecDepth 100000
set_option maxHeartbeats 4000000 in
theorem connect_any9 (w0 w : World) (t q r : Nat) (v : Int) (S : Ts) (P : Pk) (s : Sl) (H : Hp w0 w [⟨q, 33, (Pk.cells P s)⟩, ⟨t, 127, #[(.int .i64 v), (.pointer (some ⟨r, 0, none⟩)), (.bool S.b)]⟩]) (hr0 : w0.heap.size ≤ r) (hR : Rdr w r S.l S.e) (hn : S.l.length ≤ 100000) (hE : Emp w P s) (hP1 : P = zk 1) (hT : Tabs w0) :
  Calls Tryz.prog 123 #[.pointer (some ⟨t, 0, none⟩), .pointer (some ⟨q, 0, none⟩)] w fun e w' => ∃ u, ∃ x : Ts × Pk × Sl, e = .returned u ∧ (fun x => KcP w v t q r (connK v S) x.1 x.2.1 x.2.2) x u w' := by
 have HB := H; clear H
 let RR : Ending → World → Prop := fun e w' => ∃ u, ∃ x : Ts × Pk × Sl, e = .returned u ∧ (fun x => KcP w v t q r (connK v S) x.1 x.2.1 x.2.2) x u w'
 go_enter Tryz.func123, Tryz.ntmps123
 generalize hA : ({ tmps := _, defers := [] } : Act) = A
 have F : Fr A 97 [(1, (.pointer (some ⟨q, 0, none⟩))), (0, (.pointer (some ⟨t, 0, none⟩)))] := by rw [← hA]; exact (Fr.cons (i := 1) (v := (.pointer (some ⟨q, 0, none⟩))) (Fr.cons (i := 0) (v := (.pointer (some ⟨t, 0, none⟩))) (Fr.nil0 rfl rfl) rfl) rfl)
 clear hA; have H := HB; clear HB
 have hZ : Rk w (Tq t q r) r S w := Rk.start hR hn; clear hR hn
 have htq : t < q := H.b.2.2.1 _ (List.mem_cons_self ..)
 have hPp := hE.p
 refine wp_seq_k (fun K1 hK1 => gx_region ?_)
 iterate 2 (refine zd ?_; intro A F)
 refine hz_do F rfl (ex_nil rfl (F.e rfl)) ?_; intro A F
 iterate 2 (refine zd ?_; intro A F)
 refine hz_callX (fun (x : Ts) => [⟨q, 33, (Pk.cells P s)⟩, ⟨t, 127, #[(.int .i64 v), (.pointer (some ⟨r, 0, none⟩)), (.bool x.b)]⟩]) (RdP _ r (.string S.bin) S.rdB) F rfl (ex_call rfl rfl (gx_l1 (F.e rfl) gx_l0) fn_163) (kBin hZ) (fun S2 _ _ h => Hp.re H (h.2.2.k) (fun i9 (e9 : i9 = r) => by rw [e9]; exact hr0) ⟨⟨rfl, fun hb => hb.kept (h.2.2.k) (nT1 hZ.r.blk (show 33 ≠ 163 by decide) hb)⟩, ⟨⟨rfl, fun hb => by rw [show S2 = _ from h.2.1]; exact hb.kept (h.2.2.k) (nT1 hZ.r.blk (show 127 ≠ 163 by decide) hb)⟩, trivial⟩⟩) ?_; clear F H A; intro S2 vv W A hR H F; obtain ⟨rfl, hS2, hZ9⟩ := hR
 replace H : Hp w0 _ [⟨q, 33, (Pk.cells P s)⟩, ⟨t, 127, #[(.int .i64 v), (.pointer (some ⟨r, 0, none⟩)), (.bool S2.b)]⟩] := H
 replace hPp := hPp.propK hZ9.k (uO1 hZ.r)
 replace hZ := hZ.step hZ9 tq1; clear hZ9
 refine zb (rn_seql) ?_; intro A F
 obtain ⟨htb, ht0⟩ := H.b.at_ (j := 1) rfl
 refine hz_callX (fun (x : Ts) => [⟨q, 33, (Pk.cells P s)⟩, ⟨t, 127, #[(.int .i64 v), (.pointer (some ⟨r, 0, none⟩)), (.bool x.b)]⟩]) (TcP _ v t r (.tuple #[]) (S2.need (decide (S.bin = ⟨#[77, 81, 84, 84]⟩)))) F rfl (ex_call rfl rfl (gx_l1 (F.e rfl) (gx_l1 (F.e rfl) gx_l0)) fn_162) (need_any w0 _ t r v S2 ⟨H.k, htb, ht0, by simp, trivial⟩ hr0 hZ.r hZ.n (decide (S.bin = ⟨#[77, 81, 84, 84]⟩))) (fun S3 _ _ h => Hp.re H (h.z.k) (fun i9 e9 => by rcases e9 with e9 | e9 <;> (rw [e9]; first | exact hr0 | exact ht0)) ⟨⟨rfl, fun hb => hb.kept (h.z.k) (nT2 hZ.r.blk (show 33 ≠ 163 by decide) htb (show 33 ≠ 127 by decide) hb)⟩, ⟨⟨rfl, fun _ => h.tb⟩, trivial⟩⟩) ?_; clear F H A; intro S3 vv W A hR H F; obtain ⟨rfl, hS3, hZ9, -⟩ := hR
 replace H : Hp w0 _ [⟨q, 33, (Pk.cells P s)⟩, ⟨t, 127, #[(.int .i64 v), (.pointer (some ⟨r, 0, none⟩)), (.bool S3.b)]⟩] := H
 replace hPp := hPp.propK hZ9.k (uO2 hZ.r htb (nu3 (by simp) (by simp) (by simp)))
 replace hZ := hZ.step hZ9 tq2; clear hZ9
 clear htb ht0
 refine wpList_nil (hK1 _ _ ?_)
 refine wp_seq_k (fun K4 hK4 => ?_)
 refine wp_region_held_drew (S := fun wx => ∃ b9, Hp _ wx [⟨q, 33, _⟩, ⟨t, 127, #[(.int .i64 v), (.pointer (some ⟨r, 0, none⟩)), (.bool b9)]⟩]) (by kernel_rfl) ⟨_, H.drew⟩ (fun H9 => ?_); clear H9; replace H := H.drew
 replace hZ := hZ.no (Kept.refl No _).drew
 replace hPp := hPp.keptNo (Kept.refl No _).drew
 generalize World.drew _ = W at *
 refine td 0 ?_; intro A F
 refine td 1 ?_; intro A F
 refine hzh_do (v := (.pointer (some ⟨t, 0, none⟩))) (i := 2) F rfl rfl (by kernel_rfl) (fun _ _ _ h => h) (⟨_, H⟩) (fun wz ⟨c9, H⟩ => (ex_nil rfl (F.e rfl))) ?_; intro A F
 refine td 3 ?_; intro A F
 refine td 4 ?_; intro A F
 refine td 7 ?_; intro A F
 refine hzh_do (v := (.pointer (some ⟨t, 0, none⟩))) (i := 8) F rfl rfl (by kernel_rfl) (fun _ _ _ h => h) (⟨_, H⟩) (fun wz ⟨c9, H⟩ => (ex_nil rfl (F.e rfl))) ?_; intro A F
 refine td 9 ?_; intro A F
 refine td 10 ?_; intro A F
 refine hb_one (i := 5) (by kernel_rfl) (hb_callX (i := 5) (fun (x : Ts) => [⟨q, 33, (Pk.cells P s)⟩, ⟨t, 127, #[(.int .i64 v), (.pointer (some ⟨r, 0, none⟩)), (.bool x.b)]⟩]) (RdP _ r (.int .u8 ((S3.num 1 : Int))) (S3.rd 1)) F rfl rfl (ex_call rfl rfl (gx_l1 (F.e rfl) gx_l0) fn_73) (kByte hZ) (fun S5 _ _ h => Hp.re H (h.2.2.k) (fun i9 (e9 : i9 = r) => by rw [e9]; exact hr0) ⟨⟨rfl, fun hb => hb.kept (h.2.2.k) (nT1 hZ.r.blk (show 33 ≠ 163 by decide) hb)⟩, ⟨⟨rfl, fun hb => by rw [show S5 = _ from h.2.1]; exact hb.kept (h.2.2.k) (nT1 hZ.r.blk (show 127 ≠ 163 by decide) hb)⟩, trivial⟩⟩) (fun _ _ H => ⟨_, H⟩) ?_); clear F H A; intro S5 vv W A hR H F; obtain ⟨rfl, hS5, hZ9⟩ := hR
 replace H : Hp w0 _ [⟨q, 33, (Pk.cells P s)⟩, ⟨t, 127, #[(.int .i64 v), (.pointer (some ⟨r, 0, none⟩)), (.bool S5.b)]⟩] := H
 replace hPp := hPp.propK hZ9.k (uO1 hZ.r)
 replace hZ := hZ.step hZ9 tq1; clear hZ9
 have h85 := num1_lt S3
 refine hzh_do (v := (.int .i64 ((S3.num 1 : Int)))) (i := 6) F rfl rfl (by kernel_rfl) (fun _ _ _ h => h) (⟨_, H⟩) (fun wz ⟨c9, H⟩ => (ex_conv rfl (F.e rfl) (cv8_any ((S3.num 1 : Int)) _ (by omega) (by omega)))) ?_; intro A F
 refine hzh_do (v := (.bool (decide ((S3.num 1 : Int) = v)))) (i := 11) F rfl rfl (by kernel_rfl) (fun _ _ _ h => h) (⟨_, H⟩) (fun wz ⟨c9, H⟩ => (ex_bin rfl (F.e rfl) (F.e rfl) (rn_eql))) ?_; intro A F
 obtain ⟨htb, ht0⟩ := H.b.at_ (j := 1) rfl
 refine hb_one (i := 12) (by kernel_rfl) (hb_callX (i := 12) (fun (x : Ts) => [⟨q, 33, (Pk.cells P s)⟩, ⟨t, 127, #[(.int .i64 v), (.pointer (some ⟨r, 0, none⟩)), (.bool x.b)]⟩]) (TcP _ v t r (.tuple #[]) (S5.need (decide ((S3.num 1 : Int) = v)))) F rfl rfl (ex_call rfl rfl (gx_l1 (F.e rfl) (gx_l1 (F.e rfl) gx_l0)) fn_162) (need_any w0 _ t r v S5 ⟨H.k, htb, ht0, by simp, trivial⟩ hr0 hZ.r hZ.n (decide ((S3.num 1 : Int) = v))) (fun S6 _ _ h => Hp.re H (h.z.k) (fun i9 e9 => by rcases e9 with e9 | e9 <;> (rw [e9]; first | exact hr0 | exact ht0)) ⟨⟨rfl, fun hb => hb.kept (h.z.k) (nT2 hZ.r.blk (show 33 ≠ 163 by decide) htb (show 33 ≠ 127 by decide) hb)⟩, ⟨⟨rfl, fun _ => h.tb⟩, trivial⟩⟩) (fun _ _ H => ⟨_, H⟩) ?_); clear F H A; intro S6 vv W A hR H F; obtain ⟨rfl, hS6, hZ9, -⟩ := hR
 replace H : Hp w0 _ [⟨q, 33, (Pk.cells P s)⟩, ⟨t, 127, #[(.int .i64 v), (.pointer (some ⟨r, 0, none⟩)), (.bool S6.b)]⟩] := H
 replace hPp := hPp.propK hZ9.k (uO2 hZ.r htb (nu3 (by simp) (by simp) (by simp)))
 replace hZ := hZ.step hZ9 tq2; clear hZ9
 clear htb ht0
 refine wpAnyH_done (by kernel_rfl) ?_ _
 refine hK4 _ _ ?_
 refine wp_seq_k (fun K7 hK7 => gx_region ?_)
 refine zd ?_; intro A F
 refine hz_do F rfl (ex_nil rfl (F.e rfl)) ?_; intro A F
 iterate 2 (refine zd ?_; intro A F)
 refine hz_callX (fun (x : Ts) => [⟨q, 33, (Pk.cells P s)⟩, ⟨t, 127, #[(.int .i64 v), (.pointer (some ⟨r, 0, none⟩)), (.bool x.b)]⟩]) (RdP _ r (.int .u8 ((S6.num 1 : Int))) (S6.rd 1)) F rfl (ex_call rfl rfl (gx_l1 (F.e rfl) gx_l0) fn_73) (kByte hZ) (fun S8 _ _ h => Hp.re H (h.2.2.k) (fun i9 (e9 : i9 = r) => by rw [e9]; exact hr0) ⟨⟨rfl, fun hb => hb.kept (h.2.2.k) (nT1 hZ.r.blk (show 33 ≠ 163 by decide) hb)⟩, ⟨⟨rfl, fun hb => by rw [show S8 = _ from h.2.1]; exact hb.kept (h.2.2.k) (nT1 hZ.r.blk (show 127 ≠ 163 by decide) hb)⟩, trivial⟩⟩) ?_; clear F H A; intro S8 vv W A hR H F; obtain ⟨rfl, hS8, hZ9⟩ := hR
 replace H : Hp w0 _ [⟨q, 33, (Pk.cells P s)⟩, ⟨t, 127, #[(.int .i64 v), (.pointer (some ⟨r, 0, none⟩)), (.bool S8.b)]⟩] := H
 replace hPp := hPp.propK hZ9.k (uO1 hZ.r)
 replace hZ := hZ.step hZ9 tq1; clear hZ9
 have h88 := num1_lt S6
 refine zd ?_; intro A F
 refine wpList_nil (hK7 _ _ ?_)
 refine wp_seq_k (fun K9 hK9 => gx_region ?_)
 iterate 2 (refine zd ?_; intro A F)
 refine hz_do F rfl (ex_bin rfl (F.e rfl) gx_evc (rn_and8 (m := S6.num 1) (n := 1) (by omega) (by decide))) ?_; intro A F
 refine zb (rn_eqlN (i := (((S6.num 1) &&& 1))) (j := 0)) ?_; intro A F
 obtain ⟨htb, ht0⟩ := H.b.at_ (j := 1) rfl
 refine hz_callX (fun (x : Ts) => [⟨q, 33, (Pk.cells P s)⟩, ⟨t, 127, #[(.int .i64 v), (.pointer (some ⟨r, 0, none⟩)), (.bool x.b)]⟩]) (TcP _ v t r (.tuple #[]) (S8.need (decide ((((S6.num 1) &&& 1)) = 0)))) F rfl (ex_call rfl rfl (gx_l1 (F.e rfl) (gx_l1 (F.e rfl) gx_l0)) fn_162) (need_any w0 _ t r v S8 ⟨H.k, htb, ht0, by simp, trivial⟩ hr0 hZ.r hZ.n (decide ((((S6.num 1) &&& 1)) = 0))) (fun S10 _ _ h => Hp.re H (h.z.k) (fun i9 e9 => by rcases e9 with e9 | e9 <;> (rw [e9]; first | exact hr0 | exact ht0)) ⟨⟨rfl, fun hb => hb.kept (h.z.k) (nT2 hZ.r.blk (show 33 ≠ 163 by decide) htb (show 33 ≠ 127 by decide) hb)⟩, ⟨⟨rfl, fun _ => h.tb⟩, trivial⟩⟩) ?_; clear F H A; intro S10 vv W A hR H F; obtain ⟨rfl, hS10, hZ9, -⟩ := hR
 replace H : Hp w0 _ [⟨q, 33, (Pk.cells P s)⟩, ⟨t, 127, #[(.int .i64 v), (.pointer (some ⟨r, 0, none⟩)), (.bool S10.b)]⟩] := H
 replace hPp := hPp.propK hZ9.k (uO2 hZ.r htb (nu3 (by simp) (by simp) (by simp)))
 replace hZ := hZ.step hZ9 tq2; clear hZ9
 clear htb ht0
 refine wpList_nil (hK9 _ _ ?_)
 refine wp_seq_k (fun K11 hK11 => gx_region ?_)
 iterate 2 (refine zd ?_; intro A F)
 refine hz_do F rfl (ex_bin rfl (F.e rfl) gx_evc (rn_and8 (m := S6.num 1) (n := 2) (by omega) (by decide))) ?_; intro A F
 refine zb (rn_neqN (i := (((S6.num 1) &&& 2))) (j := 0)) ?_; intro A F
 refine hz_do F rfl (ex_nil rfl (F.e rfl)) ?_; intro A F
 refine zd ?_; intro A F
 let P12 : Pk := { P with clean := !decide ((((S6.num 1) &&& 2)) = 0) }
 refine zs [] ((Pk.cells P12 s)) ?_; intro W H9 hk
 replace hZ := hZ.st (H.b.at_ (j := 0) rfl).1 (show 33 ≠ 5 by decide) (show 33 ≠ 163 by decide) (.inr (.inr (.inl rfl))) hk
 replace hPp := hPp.propK hk (uOne (H.b.at_ (j := 0) rfl).1 (nuPk _ _))
 clear H hk; have H := H9; clear H9
 refine wpList_nil (hK11 _ _ ?_)
 refine wp_seq_k (fun K13 hK13 => gx_region ?_)
 iterate 2 (refine zd ?_; intro A F)
 refine hz_do F rfl (ex_nil rfl (F.e rfl)) ?_; intro A F
 iterate 2 (refine zd ?_; intro A F)
 refine hz_callX (fun (x : Ts) => [⟨q, 33, (Pk.cells P12 s)⟩, ⟨t, 127, #[(.int .i64 v), (.pointer (some ⟨r, 0, none⟩)), (.bool x.b)]⟩]) (RdP _ r (.int .u16 ((S10.num 2 : Int))) (S10.rd 2)) F rfl (ex_call rfl rfl (gx_l1 (F.e rfl) gx_l0) fn_126) (kTwo hZ) (fun S14 _ _ h => Hp.re H (h.2.2.k) (fun i9 (e9 : i9 = r) => by rw [e9]; exact hr0) ⟨⟨rfl, fun hb => hb.kept (h.2.2.k) (nT1 hZ.r.blk (show 33 ≠ 163 by decide) hb)⟩, ⟨⟨rfl, fun hb => by rw [show S14 = _ from h.2.1]; exact hb.kept (h.2.2.k) (nT1 hZ.r.blk (show 127 ≠ 163 by decide) hb)⟩, trivial⟩⟩) ?_; clear F H A; intro S14 vv W A hR H F; obtain ⟨rfl, hS14, hZ9⟩ := hR
 replace H : Hp w0 _ [⟨q, 33, (Pk.cells P12 s)⟩, ⟨t, 127, #[(.int .i64 v), (.pointer (some ⟨r, 0, none⟩)), (.bool S14.b)]⟩] := H
 replace hPp := hPp.propK hZ9.k (uO1 hZ.r)
 replace hZ := hZ.step hZ9 tq1; clear hZ9
 refine hz_do F rfl (ex_nil rfl (F.e rfl)) ?_; intro A F
 refine zd ?_; intro A F
 let P15 : Pk := { P12 with keep := S10.num 2 }
 refine zs [] ((Pk.cells P15 s)) ?_; intro W H9 hk
 replace hZ := hZ.st (H.b.at_ (j := 0) rfl).1 (show 33 ≠ 5 by decide) (show 33 ≠ 163 by decide) (.inr (.inr (.inl rfl))) hk
 replace hPp := hPp.propK hk (uOne (H.b.at_ (j := 0) rfl).1 (nuPk _ _))
 clear H hk; have H := H9; clear H9
 refine wpList_nil (hK13 _ _ ?_)
 refine wp_seq_k (fun K16 hK16 => gx_region ?_)
 iterate 2 (refine zd ?_; intro A F)
 obtain ⟨htb, ht0⟩ := H.b.at_ (j := 1) rfl
 refine hz_callX (fun (x : Ts × Option Addr × Nat) => [⟨q, 33, (Pk.cells P15 s)⟩, ⟨t, 127, #[(.int .i64 v), (.pointer (some ⟨r, 0, none⟩)), (.bool x.1.b)]⟩]) (fun x => ScP _ v t r (S14.sec v) (S14.rdS v) x.1 x.2.1 x.2.2) F rfl (ex_call rfl rfl (gx_l1 (F.e rfl) gx_l0) fn_128) (tsec_any w0 _ t r v S14 ⟨H.k, htb, ht0, by simp, trivial⟩ hr0 hZ.r hZ.n hT) (fun x9 _ _ h => Hp.re H (h.z.k) (fun i9 e9 => by rcases e9 with e9 | e9 <;> (rw [e9]; first | exact hr0 | exact ht0)) ⟨⟨rfl, fun hb => hb.kept (h.z.k) (nT2 hZ.r.blk (show 33 ≠ 163 by decide) htb (show 33 ≠ 127 by decide) hb)⟩, ⟨⟨rfl, fun _ => h.tb⟩, trivial⟩⟩) ?_; clear F H A; intro x9 vv W A hR H F; obtain ⟨S17, a17, c17⟩ := x9; replace hR : ScP _ v t r (S14.sec v) (S14.rdS v) S17 a17 c17 vv W := hR; obtain ⟨rfl, hS17, hZ9, -, hP17⟩ := hR
 replace H : Hp w0 _ [⟨q, 33, (Pk.cells P15 s)⟩, ⟨t, 127, #[(.int .i64 v), (.pointer (some ⟨r, 0, none⟩)), (.bool S17.b)]⟩] := H
 replace hPp := hPp.propK hZ9.k (uO2 hZ.r htb (nu3 (by simp) (by simp) (by simp)))
 replace hZ := hZ.step hZ9 tq2; clear hZ9
 clear htb ht0
 refine hz_do F rfl (ex_nil rfl (F.e rfl)) ?_; intro A F
 refine zd ?_; intro A F
 let s18 : Sl := { s with pa := a17, pc := c17 }
 let P19 : Pk := { P15 with props := (S14.sec v) }
 refine zs [] ((Pk.cells P19 s18)) ?_; intro W H9 hk
 replace hZ := hZ.st (H.b.at_ (j := 0) rfl).1 (show 33 ≠ 5 by decide) (show 33 ≠ 163 by decide) (.inr (.inr (.inl rfl))) hk
 replace hPp := hPp.propK hk (uOne (H.b.at_ (j := 0) rfl).1 (nuPk _ _))
 replace hP17 := hP17.propK hk (uOne (H.b.at_ (j := 0) rfl).1 (nuPk _ _))
 clear H hk; have H := H9; clear H9
 refine wpList_nil (hK16 _ _ ?_)
 refine wp_seq_k (fun K20 hK20 => gx_region ?_)
 iterate 2 (refine zd ?_; intro A F)
 obtain ⟨htb, ht0⟩ := H.b.at_ (j := 1) rfl
 refine hz_callX (fun (x : Ts) => [⟨q, 33, (Pk.cells P19 s18)⟩, ⟨t, 127, #[(.int .i64 v), (.pointer (some ⟨r, 0, none⟩)), (.bool x.b)]⟩]) (TcP _ v t r (.string S17.bin) S17.rdT) F rfl (ex_call rfl rfl (gx_l1 (F.e rfl) gx_l0) fn_164) (text_any w0 _ t r v S17 ⟨H.k, htb, ht0, by simp, trivial⟩ hr0 hZ.r hZ.n hT) (fun S21 _ _ h => Hp.re H (h.z.k) (fun i9 e9 => by rcases e9 with e9 | e9 <;> (rw [e9]; first | exact hr0 | exact ht0)) ⟨⟨rfl, fun hb => hb.kept (h.z.k) (nT2 hZ.r.blk (show 33 ≠ 163 by decide) htb (show 33 ≠ 127 by decide) hb)⟩, ⟨⟨rfl, fun _ => h.tb⟩, trivial⟩⟩) ?_; clear F H A; intro S21 vv W A hR H F; obtain ⟨rfl, hS21, hZ9, -⟩ := hR
 replace H : Hp w0 _ [⟨q, 33, (Pk.cells P19 s18)⟩, ⟨t, 127, #[(.int .i64 v), (.pointer (some ⟨r, 0, none⟩)), (.bool S21.b)]⟩] := H
 replace hPp := hPp.propK hZ9.k (uO2 hZ.r htb (nu3 (by simp) (by simp) (by simp)))
 replace hP17 := hP17.propK hZ9.k (uO2 hZ.r htb (nu3 (by simp) (by simp) (by simp)))
 replace hZ := hZ.step hZ9 tq2; clear hZ9
 clear htb ht0
 refine hz_do F rfl (ex_nil rfl (F.e rfl)) ?_; intro A F
 refine zd ?_; intro A F
 let P22 : Pk := { P19 with client := S17.bin }
 refine zs [] ((Pk.cells P22 s18)) ?_; intro W H9 hk
 replace hZ := hZ.st (H.b.at_ (j := 0) rfl).1 (show 33 ≠ 5 by decide) (show 33 ≠ 163 by decide) (.inr (.inr (.inl rfl))) hk
 replace hPp := hPp.propK hk (uOne (H.b.at_ (j := 0) rfl).1 (nuPk _ _))
 replace hP17 := hP17.propK hk (uOne (H.b.at_ (j := 0) rfl).1 (nuPk _ _))
 clear H hk; have H := H9; clear H9
 refine wpList_nil (hK20 _ _ ?_)
 refine wp_seq_k (fun K23 hK23 => gx_region ?_)
 iterate 3 (refine zd ?_; intro A F)
 obtain ⟨htb, ht0⟩ := H.b.at_ (j := 1) rfl
 obtain ⟨hqb, hq0⟩ := H.b.at_ (j := 0) rfl
 refine hz_callX (fun (x : Ts × Pk × Sl) => [⟨q, 33, (Pk.cells x.2.1 x.2.2)⟩, ⟨t, 127, #[(.int .i64 v), (.pointer (some ⟨r, 0, none⟩)), (.bool x.1.b)]⟩]) (fun x => KcP _ v t q r (willK v (S6.num 1) P22 S21) x.1 x.2.1 x.2.2) F rfl (ex_call rfl rfl (gx_l1 (F.e rfl) (gx_l1 (F.e rfl) (gx_l1 (F.e rfl) gx_l0))) fn_165) (will_any9 w0 _ t q r v S21 P22 s18 ⟨H.k, hqb, hq0, (by intro y hy; simp at hy; subst hy; exact htq), htb, ht0, by simp, trivial⟩ hr0 hZ.r hZ.n ⟨by subst hP1; rfl, hP17, by subst hP1; rfl, by subst hP1; rfl, hE.sc⟩ (S6.num 1) h88 hT) (fun x9 _ _ h => Hp.re H (h.z.k) (fun i9 e9 => by rcases e9 with e9 | e9 | e9 <;> (rw [e9]; first | exact hr0 | exact ht0 | exact hq0)) ⟨⟨rfl, fun _ => h.qb⟩, ⟨⟨rfl, fun _ => h.tb⟩, trivial⟩⟩) ?_; clear F H A; intro x9 vv W A hR H F; obtain ⟨S24, P24, s24⟩ := x9; replace hR : KcP _ v t q r (willK v (S6.num 1) P22 S21) S24 P24 s24 vv W := hR; obtain ⟨rfl, hS24, hP24, hZ9, -, -, hPw24, hPp24, hnf24, hnc24, hsc24⟩ := hR
 replace H : Hp w0 _ [⟨q, 33, (Pk.cells P24 s24)⟩, ⟨t, 127, #[(.int .i64 v), (.pointer (some ⟨r, 0, none⟩)), (.bool S24.b)]⟩] := H
 replace hPp := hPp.propK hZ9.k (uO3 hZ.r htb (nu3 (by simp) (by simp) (by simp)) hqb (nuPk _ _))
 replace hP17 := hP17.propK hZ9.k (uO3 hZ.r htb (nu3 (by simp) (by simp) (by simp)) hqb (nuPk _ _))
 replace hZ := hZ.step hZ9 tq3; clear hZ9
 clear htb ht0
 clear hqb hq0
 refine wpList_nil (hK23 _ _ ?_)
 refine wp_seq_k (fun K25 hK25 => gx_region ?_)
 iterate 2 (refine zd ?_; intro A F)
 refine hz_do F rfl (ex_bin rfl (F.e rfl) gx_evc (rn_and8 (m := S6.num 1) (n := 128) (by omega) (by decide))) ?_; intro A F
 refine zb (rn_neqN (i := (((S6.num 1) &&& 128))) (j := 0)) ?_; intro A F
 refine hz_do F rfl (ex_nil rfl (F.e rfl)) ?_; intro A F
 refine zd ?_; intro A F
 let P26 : Pk := { P24 with hasUser := !decide ((((S6.num 1) &&& 128)) = 0) }
 refine zs [] ((Pk.cells P26 s24)) ?_; intro W H9 hk
 replace hZ := hZ.st (H.b.at_ (j := 0) rfl).1 (show 33 ≠ 5 by decide) (show 33 ≠ 163 by decide) (.inr (.inr (.inl rfl))) hk
 replace hPp := hPp.propK hk (uOne (H.b.at_ (j := 0) rfl).1 (nuPk _ _))
 replace hP17 := hP17.propK hk (uOne (H.b.at_ (j := 0) rfl).1 (nuPk _ _))
 replace hPw24 := hPw24.propK hk (uOne (H.b.at_ (j := 0) rfl).1 (nuPk _ _))
 replace hPp24 := hPp24.propK hk (uOne (H.b.at_ (j := 0) rfl).1 (nuPk _ _))
 clear H hk; have H := H9; clear H9
 refine wpList_nil (hK25 _ _ ?_)
 refine hz_cut (fun A W => ∃ P27 : Pk, ∃ S27 : Ts, Fr A 97 [(0, (.pointer (some ⟨t, 0, none⟩))), (1, (.pointer (some ⟨q, 0, none⟩))), (4, (.int .u8 ((S6.num 1 : Int))))] ∧ Hp w0 W [⟨q, 33, (Pk.cells P27 s24)⟩, ⟨t, 127, #[(.int .i64 v), (.pointer (some ⟨r, 0, none⟩)), (.bool S27.b)]⟩] ∧ (P27 = (userK (S6.num 1) P24 S24).1) ∧ (S27 = (userK (S6.num 1) P24 S24).2) ∧ (Rk w (Tq t q r) r S27 W) ∧ (Row W (s24).wa (PC P27.willProps)) ∧ (Row W (s24).pa (PC P27.props)) ∧ (P27.filters = []) ∧ (P27.codes = []) ∧ ((s24).ca = none ∧ (s24).cc = 0)) (fun A W hM => ?_) (fun K28 hK28 => ?_)
 rotate_left
 ·skip
  refine wp_seq_k (fun K29 hK29 => gx_region ?_)
  refine zd ?_; intro A F
  refine hz_do F rfl (ex_nil rfl (F.e rfl)) ?_; intro A F
  iterate 2 (refine zd ?_; intro A F)
  refine wpList_nil (hK29 _ _ ?_)
  refine zc (fun hb30 => ?_) (fun hb30 => ?_)
  ·skip
   replace F := (((F.nil.cons (F.g 4 _ rfl)).cons (F.g 1 _ rfl)).cons (F.g 0 _ rfl))
   refine gx_region ?_
   iterate 2 (refine zd ?_; intro A F)
   obtain ⟨htb, ht0⟩ := H.b.at_ (j := 1) rfl
   refine hz_callX (fun (x : Ts) => [⟨q, 33, (Pk.cells P26 s24)⟩, ⟨t, 127, #[(.int .i64 v), (.pointer (some ⟨r, 0, none⟩)), (.bool x.b)]⟩]) (TcP _ v t r (.string S24.bin) S24.rdT) F rfl (ex_call rfl rfl (gx_l1 (F.e rfl) gx_l0) fn_164) (text_any w0 _ t r v S24 ⟨H.k, htb, ht0, by simp, trivial⟩ hr0 hZ.r hZ.n hT) (fun S31 _ _ h => Hp.re H (h.z.k) (fun i9 e9 => by rcases e9 with e9 | e9 <;> (rw [e9]; first | exact hr0 | exact ht0)) ⟨⟨rfl, fun hb => hb.kept (h.z.k) (nT2 hZ.r.blk (show 33 ≠ 163 by decide) htb (show 33 ≠ 127 by decide) hb)⟩, ⟨⟨rfl, fun _ => h.tb⟩, trivial⟩⟩) ?_; clear F H A; intro S31 vv W A hR H F; obtain ⟨rfl, hS31, hZ9, -⟩ := hR
   replace H : Hp w0 _ [⟨q, 33, (Pk.cells P26 s24)⟩, ⟨t, 127, #[(.int .i64 v), (.pointer (some ⟨r, 0, none⟩)), (.bool S31.b)]⟩] := H
   replace hPp := hPp.propK hZ9.k (uO2 hZ.r htb (nu3 (by simp) (by simp) (by simp)))
   replace hP17 := hP17.propK hZ9.k (uO2 hZ.r htb (nu3 (by simp) (by simp) (by simp)))
   replace hPw24 := hPw24.propK hZ9.k (uO2 hZ.r htb (nu3 (by simp) (by simp) (by simp)))
   replace hPp24 := hPp24.propK hZ9.k (uO2 hZ.r htb (nu3 (by simp) (by simp) (by simp)))
   replace hZ := hZ.step hZ9 tq2; clear hZ9
   clear htb ht0
   refine hz_do F rfl (ex_nil rfl (F.e rfl)) ?_; intro A F
   refine zd ?_; intro A F
   let P32 : Pk := { P26 with user := S24.bin }
   refine zs [] ((Pk.cells P32 s24)) ?_; intro W H9 hk
   replace hZ := hZ.st (H.b.at_ (j := 0) rfl).1 (show 33 ≠ 5 by decide) (show 33 ≠ 163 by decide) (.inr (.inr (.inl rfl))) hk
   replace hPp := hPp.propK hk (uOne (H.b.at_ (j := 0) rfl).1 (nuPk _ _))
   replace hP17 := hP17.propK hk (uOne (H.b.at_ (j := 0) rfl).1 (nuPk _ _))
   replace hPw24 := hPw24.propK hk (uOne (H.b.at_ (j := 0) rfl).1 (nuPk _ _))
   replace hPp24 := hPp24.propK hk (uOne (H.b.at_ (j := 0) rfl).1 (nuPk _ _))
   clear H hk; have H := H9; clear H9
   refine wpList_nil ?_
   exact hK28 _ _ ⟨P32, S31, (((F.nil.cons (F.g 4 _ rfl)).cons (F.g 1 _ rfl)).cons (F.g 0 _ rfl)), H, (congrArg Prod.fst (show (userK (S6.num 1) P24 S24) = _ from if_pos hb30)).symm, (by rw [hS31]; exact (congrArg Prod.snd (show (userK (S6.num 1) P24 S24) = _ from if_pos hb30)).symm), hZ, hPw24, hPp24, hnf24, hnc24, hsc24⟩
  replace F := (((F.nil.cons (F.g 4 _ rfl)).cons (F.g 1 _ rfl)).cons (F.g 0 _ rfl))
  refine wp_skip ?_
  exact hK28 _ _ ⟨P26, S24, (((F.nil.cons (F.g 4 _ rfl)).cons (F.g 1 _ rfl)).cons (F.g 0 _ rfl)), H, (congrArg Prod.fst (show (userK (S6.num 1) P24 S24) = _ from if_neg (by have h9 : (!decide ((((S6.num 1) &&& 128)) = 0)) = false := hb30; rw [h9]; decide))).symm, (congrArg Prod.snd (show (userK (S6.num 1) P24 S24) = _ from if_neg (by have h9 : (!decide ((((S6.num 1) &&& 128)) = 0)) = false := hb30; rw [h9]; decide))).symm, hZ, hPw24, hPp24, hnf24, hnc24, hsc24⟩
 clear F H; obtain ⟨P27, S27, F, H, hP27, hS27, hZ, hPw27, hPp27, hnf27, hnc27, hsc27⟩ := hM
 refine wp_seq_k (fun K33 hK33 => gx_region ?_)
 iterate 2 (refine zd ?_; intro A F)
 refine hz_do F rfl (ex_bin rfl (F.e rfl) gx_evc (rn_and8 (m := S6.num 1) (n := 64) (by omega) (by decide))) ?_; intro A F
 refine zb (rn_neqN (i := (((S6.num 1) &&& 64))) (j := 0)) ?_; intro A F
 refine hz_do F rfl (ex_nil rfl (F.e rfl)) ?_; intro A F
 refine zd ?_; intro A F
 let P34 : Pk := { P27 with hasPass := !decide ((((S6.num 1) &&& 64)) = 0) }
 refine zs [] ((Pk.cells P34 s24)) ?_; intro W H9 hk
 replace hZ := hZ.st (H.b.at_ (j := 0) rfl).1 (show 33 ≠ 5 by decide) (show 33 ≠ 163 by decide) (.inr (.inr (.inl rfl))) hk
 replace hPw27 := hPw27.propK hk (uOne (H.b.at_ (j := 0) rfl).1 (nuPk _ _))
 replace hPp27 := hPp27.propK hk (uOne (H.b.at_ (j := 0) rfl).1 (nuPk _ _))
 clear H hk; have H := H9; clear H9
 refine wpList_nil (hK33 _ _ ?_)
 refine wp_seq_k (fun K35 hK35 => gx_region ?_)
 refine zd ?_; intro A F
 refine hz_do F rfl (ex_nil rfl (F.e rfl)) ?_; intro A F
 iterate 2 (refine zd ?_; intro A F)
 refine wpList_nil (hK35 _ _ ?_)
 refine zc (fun hb36 => ?_) (fun hb36 => ?_)
 ·skip
  refine gx_region ?_
  iterate 2 (refine zd ?_; intro A F)
  refine hz_do F rfl (ex_nil rfl (F.e rfl)) ?_; intro A F
  iterate 2 (refine zd ?_; intro A F)
  refine hz_callX (fun (x : Ts) => [⟨q, 33, (Pk.cells P34 s24)⟩, ⟨t, 127, #[(.int .i64 v), (.pointer (some ⟨r, 0, none⟩)), (.bool x.b)]⟩]) (RdP _ r (.string S27.bin) S27.rdB) F rfl (ex_call rfl rfl (gx_l1 (F.e rfl) gx_l0) fn_163) (kBin hZ) (fun S37 _ _ h => Hp.re H (h.2.2.k) (fun i9 (e9 : i9 = r) => by rw [e9]; exact hr0) ⟨⟨rfl, fun hb => hb.kept (h.2.2.k) (nT1 hZ.r.blk (show 33 ≠ 163 by decide) hb)⟩, ⟨⟨rfl, fun hb => by rw [show S37 = _ from h.2.1]; exact hb.kept (h.2.2.k) (nT1 hZ.r.blk (show 127 ≠ 163 by decide) hb)⟩, trivial⟩⟩) ?_; clear F H A; intro S37 vv W A hR H F; obtain ⟨rfl, hS37, hZ9⟩ := hR
  replace H : Hp w0 _ [⟨q, 33, (Pk.cells P34 s24)⟩, ⟨t, 127, #[(.int .i64 v), (.pointer (some ⟨r, 0, none⟩)), (.bool S37.b)]⟩] := H
  replace hPw27 := hPw27.propK hZ9.k (uO1 hZ.r)
  replace hPp27 := hPp27.propK hZ9.k (uO1 hZ.r)
  replace hZ := hZ.step hZ9 tq1; clear hZ9
  refine hz_do F rfl (ex_nil rfl (F.e rfl)) ?_; intro A F
  refine zd ?_; intro A F
  let P38 : Pk := { P34 with pass := S27.bin }
  refine zs [] ((Pk.cells P38 s24)) ?_; intro W H9 hk
  replace hZ := hZ.st (H.b.at_ (j := 0) rfl).1 (show 33 ≠ 5 by decide) (show 33 ≠ 163 by decide) (.inr (.inr (.inl rfl))) hk
  replace hPw27 := hPw27.propK hk (uOne (H.b.at_ (j := 0) rfl).1 (nuPk _ _))
  replace hPp27 := hPp27.propK hk (uOne (H.b.at_ (j := 0) rfl).1 (nuPk _ _))
  clear H hk; have H := H9; clear H9
  refine wpList_nil ?_
  refine (show bodyPost _ Tryz.f123 RR Exit.normal _ _ from zn0 ?_)
  exact (by have hK9 := (show passK (S6.num 1) P27 S27 = _ from if_pos hb36); subst hS37 hS27 hP27 hP24 hS24 hS21 hS17 hS14 hS10 hS8 hS6 hS5 hS3 hS2 hP1; exact ⟨_, (_, _, s24), rfl, ⟨rfl, (congrArg Prod.snd hK9).symm, (congrArg Prod.fst hK9).symm, hZ, (H.b.at_ (j := 1) rfl).1, (H.b.at_ (j := 0) rfl).1, hPw27, hPp27, hnf27, hnc27, hsc27⟩⟩)
 refine wp_skip ?_
 refine (show bodyPost _ Tryz.f123 RR Exit.normal _ _ from zn0 ?_)
 exact (by have hK9 := (show passK (S6.num 1) P27 S27 = _ from if_neg (by have h9 : (!decide ((((S6.num 1) &&& 64)) = 0)) = false := hb36; rw [h9]; decide)); subst hS27 hP27 hP24 hS24 hS21 hS17 hS14 hS10 hS8 hS6 hS5 hS3 hS2 hP1; exact ⟨_, (_, _, s24), rfl, ⟨rfl, (congrArg Prod.snd hK9).symm, (congrArg Prod.fst hK9).symm, hZ, (H.b.at_ (j := 1) rfl).1, (H.b.at_ (j := 0) rfl).1, hPw27, hPp27, hnf27, hnc27, hsc27⟩⟩)
structure FcP (w : World) (v : Int) (t r : Nat) (L : List Fi) (S' S1 : Ts) (a : Option Addr) (c : Nat) (u : Value) (W : World) : Prop where
 u : u = .slice a L.length c
 s : S1 = S'
 z : Rk w (Tt t r) r S1 W
 tb : Blk W t 127 #[.int .i64 v, .pointer (some ⟨r, 0, none⟩), .bool S1.b]
 row : W.ownsRow w.heap.size 88 2 (.slice a L.length c) L.length (FC L)
set_option maxHeartbeats 4000000 in
theorem filters_any9 (w0 w : World) (t r : Nat) (v : Int) (S : Ts) (H : Hp w0 w [⟨t, 127, #[(.int .i64 v), (.pointer (some ⟨r, 0, none⟩)), (.bool S.b)]⟩]) (hr0 : w0.heap.size ≤ r) (hR : Rdr w r S.l S.e) (hn : S.l.length ≤ 100000) (k : Int) (hT : Tabs w0) :
  Calls Tryz.prog 129 #[.pointer (some ⟨t, 0, none⟩), .int .i64 k] w fun e w' => ∃ u, ∃ x : Ts × Option Addr × Nat, e = .returned u ∧ (fun x => FcP w v t r (filtK k S.l.length S).1 (filtK k S.l.length S).2 x.1 x.2.1 x.2.2) x u w' := by
 have HB := H; clear H
 let RR : Ending → World → Prop := fun e w' => ∃ u, ∃ x : Ts × Option Addr × Nat, e = .returned u ∧ (fun x => FcP w v t r (filtK k S.l.length S).1 (filtK k S.l.length S).2 x.1 x.2.1 x.2.2) x u w'
 go_enter Tryz.func129, Tryz.ntmps129
 generalize hA : ({ tmps := _, defers := [] } : Act) = A
 have F : Fr A 33 [(1, (.int .i64 k)), (0, (.pointer (some ⟨t, 0, none⟩)))] := by rw [← hA]; exact (Fr.cons (i := 1) (v := (.int .i64 k)) (Fr.cons (i := 0) (v := (.pointer (some ⟨t, 0, none⟩))) (Fr.nil0 rfl rfl) rfl) rfl)
 clear hA; have H := HB; clear HB
 have hZ : Rk w (Tt t r) r S w := Rk.start hR hn; clear hR hn
 have hw0 := H.size; have hSn0 := hZ.n
 refine wp_seq_k (fun K1 hK1 => gx_region ?_)
 refine zd ?_; intro A F
 refine wpList_nil (hK1 _ _ ?_)
 refine wp_seq_k (fun K2 hK2 => gx_region ?_)
 refine zd ?_; intro A F
 refine wpList_nil (hK2 _ _ ?_)
 refine wp_seq_k (fun K3 hK3 => ?_)
 refine wp_block ?_
 refine hz_loop (fun (n : Nat) A W => ∃ acc : List Fi, ∃ a : Option Addr, ∃ c : Nat, ∃ S1 : Ts, Fr A 33 [(0, (.pointer (some ⟨t, 0, none⟩))), (1, (.int .i64 k)), (4, (.slice none 0 0)), (5, (.slice a acc.length c))] ∧ Hp w0 W [⟨t, 127, #[(.int .i64 v), (.pointer (some ⟨r, 0, none⟩)), (.bool S1.b)]⟩] ∧ W.ownsRow w.heap.size 88 2 (.slice a acc.length c) acc.length ((FC acc)) ∧ (filtK k S.l.length S = (acc ++ (filtK k n S1).1, (filtK k n S1).2)) ∧ (S1.l.length ≤ n) ∧ (acc.length + n ≤ S.l.length) ∧ (Rk w (Tt t r) r S1 W)) (fun n => n) S.l.length ⟨[], none, 0, S, ((((F.nil.cons (gx_is (F.g 5 _ rfl) (by rfl))).cons (F.g 4 _ rfl)).cons (F.g 1 _ rfl)).cons (F.g 0 _ rfl)), H, own_nil _, by simp, Nat.le_refl _, by simp, hZ⟩ (fun n A W hI J4 hJ4 => ?_)
 clear F H; obtain ⟨acc, a, c, S1, F, H, hO, hf, hnn, hal, hZ⟩ := hI
 have hSn := hZ.n
 refine wp_seq_k (fun K5 hK5 => ?_)
 refine wp_seq_k (fun K6 hK6 => gx_region ?_)
 refine zd ?_; intro A F
 have htb9 := (H.b.at_ (j := 0) rfl)
 refine hz_callk F H rfl (ex_call rfl rfl (gx_l1 (F.e rfl) gx_l0) fn_82) (ok_any w0 _ t r v S1 ⟨H.k, htb9.1, htb9.2, by simp, trivial⟩ hr0 hZ.r hZ.n) ?_; clear F H A; intro W A hk H F
 replace hZ := hZ.no hk
 replace hO := og_kept hO hk
 clear hk
 refine zd ?_; intro A F
 refine zg ?_; intro A F
 refine hz_g F rfl (hw_t F rfl rfl rfl) (fun hG => (ex_nil rfl (F.o rfl hG))) ?_; intro A F
 refine hz_fldg F rfl rfl (hw_t F rfl rfl rfl) rfl rfl (fun hG => (F.o rfl hG)) (fa_127_1 _ _ _) (ag_116 _) (H.c 0 rfl rfl) ?_; intro A F
 refine hz_callg F H rfl (hw_t F rfl rfl rfl) (fun hG => (ex_call rfl rfl (gx_l1 (F.o rfl hG) gx_l0) fn_76)) (fun hG => kLeft hZ) ?_; clear F H A; intro W A hk H F
 replace hZ := hZ.no hk
 replace hO := og_kept hO hk
 clear hk
 refine zgb (rn_gtrN (i := S1.l.length) (j := 0)) ?_; intro A F
 refine hz_do F rfl (ex_pickA rfl (F.e rfl) (fun hx => (F.o rfl hx)) rfl) ?_; intro A F
 refine wpList_nil (hK6 _ _ ?_)
 refine zc (fun hb9 => ?_) (fun hb9 => ?_)
 ·skip
  refine wp_skip (hK5 _ _ ?_)
  refine wp_block ?_
  refine wp_seq_k (fun K10 hK10 => gx_region ?_)
  refine zd ?_; intro A F
  obtain ⟨htb, ht0⟩ := H.b.at_ (j := 0) rfl
  refine hz_callX (fun (x : Ts) => [⟨t, 127, #[(.int .i64 v), (.pointer (some ⟨r, 0, none⟩)), (.bool x.b)]⟩]) (TcP _ v t r (.string S1.bin) S1.rdT) F rfl (ex_call rfl rfl (gx_l1 (F.e rfl) gx_l0) fn_164) (text_any w0 _ t r v S1 ⟨H.k, htb, ht0, by simp, trivial⟩ hr0 hZ.r hZ.n hT) (fun S11 _ _ h => Hp.re H (h.z.k) (fun i9 e9 => by rcases e9 with e9 | e9 <;> (rw [e9]; first | exact hr0 | exact ht0)) ⟨⟨rfl, fun _ => h.tb⟩, trivial⟩) ?_; clear F H A; intro S11 vv W A hR H F; obtain ⟨rfl, hS11, hZ9, -⟩ := hR
  replace H : Hp w0 _ [⟨t, 127, #[(.int .i64 v), (.pointer (some ⟨r, 0, none⟩)), (.bool S11.b)]⟩] := H
  replace hO := own_T hO hZ9.k (oT2 hZ.r.blk (show 163 ≠ 88 by decide) htb (show 127 ≠ 88 by decide))
  replace hZ := hZ.step hZ9 tt2; clear hZ9
  clear htb ht0
  refine hz_do (v := (.agg #[(.string S1.bin), (.int .u8 0)])) F rfl (ex_build rfl (gx_p1 (F.e rfl) gx_p0) (by kernel_rfl)) ?_; intro A F
  refine hz_new (c := #[(.string ⟨#[]⟩), (.int .u8 0)]) (t := 88) F H rfl (ex_alloc rfl (al_88 _)) ?_; clear F A; intro b12 W A hk hN H9 F; clear H; have H := H9; clear H9
  have hN_hZ_b12 := Nat.le_trans hZ.k.size hN
  have hne_hO_b12 := og_lt hO hN
  replace hZ := hZ.no hk
  replace hO := og_kept hO hk
  clear hk hN
  obtain ⟨W9, hr, hB, hk⟩ := gx_storeAgg (P := Tryz.prog) (S := 88) (c := #[(.string S1.bin), (.int .u8 0)]) _ (H.b.at_ (j := 0) rfl).1 (gs_88 _) rfl (by simp [Value.oneCell'])
  replace hO := og_new hO hne_hO_b12 hk
  replace hZ := hZ.st (H.b.at_ (j := 0) rfl).1 (show 88 ≠ 5 by decide) (show 88 ≠ 163 by decide) (.inl hN_hZ_b12) hk
  refine hz_st (ex_store rfl (F.e rfl) (F.e rfl) hr) ?_; clear hr; replace H : Hp _ _ [_, _] := Hp.turn [] H hk hB; clear hk hB
  refine wpList_nil (hK10 _ _ ?_)
  have hok : S1.ok = true ∧ 0 < S1.l.length := by have h9 := hb9; simpa using h9
  refine hz_cut (fun A W => ∃ o : Nat, ∃ S8 : Ts, Fr A 33 [(0, (.pointer (some ⟨t, 0, none⟩))), (1, (.int .i64 k)), (4, (.slice none 0 0)), (5, (.slice a acc.length c)), (6, (.pointer (some ⟨b12, 0, none⟩))), (7, (.pointer (some ⟨t, 0, none⟩))), (8, (.bool S1.ok)), (9, (.bool S1.ok)), (10, (og (S1.ok) (.pointer (some ⟨t, 0, none⟩)))), (11, (og (S1.ok) (.pointer (some ⟨t, 0, none⟩)))), (12, (og (S1.ok) (.pointer (some ⟨t, 1, none⟩)))), (13, (og (S1.ok) (.pointer (some ⟨r, 0, none⟩)))), (14, (og (S1.ok) (.int .i64 ((S1.l.length : Int))))), (15, (og (S1.ok) (.bool (decide (0 < S1.l.length))))), (16, (.bool (S1.ok && (decide (0 < S1.l.length))))), (17, (.pointer (some ⟨t, 0, none⟩))), (18, (.string S1.bin)), (19, (.agg #[(.string S1.bin), (.int .u8 0)]))] ∧ Hp w0 W [⟨b12, 88, #[(.string S1.bin), (.int .u8 ((o : Int)))]⟩, ⟨t, 127, #[(.int .i64 v), (.pointer (some ⟨r, 0, none⟩)), (.bool S8.b)]⟩] ∧ W.ownsRow w.heap.size 88 2 (.slice a acc.length c) acc.length ((FC acc)) ∧ (o = if k = 8 then S1.rdT.num 1 else 0) ∧ (S8 = if k = 8 then S1.rdT.rd 1 else S1.rdT) ∧ (Rk w (Tt t r) r S8 W)) (fun A W hM => ?_) (fun K13 hK13 => ?_)
  rotate_left
  ·skip
   refine wp_seq_k (fun K14 hK14 => gx_region ?_)
   refine zd ?_; intro A F
   refine zb (rn_eql) ?_; intro A F
   refine wpList_nil (hK14 _ _ ?_)
   refine zc (fun hb15 => ?_) (fun hb15 => ?_)
   ·skip
    refine gx_region ?_
    refine zd ?_; intro A F
    refine hz_do F rfl (ex_nil rfl (F.e rfl)) ?_; intro A F
    iterate 2 (refine zd ?_; intro A F)
    refine hz_callX (fun (x : Ts) => [⟨b12, 88, #[(.string S1.bin), (.int .u8 0)]⟩, ⟨t, 127, #[(.int .i64 v), (.pointer (some ⟨r, 0, none⟩)), (.bool x.b)]⟩]) (RdP _ r (.int .u8 ((S11.num 1 : Int))) (S11.rd 1)) F rfl (ex_call rfl rfl (gx_l1 (F.e rfl) gx_l0) fn_73) (kByte hZ) (fun S16 _ _ h => Hp.re H (h.2.2.k) (fun i9 (e9 : i9 = r) => by rw [e9]; exact hr0) ⟨⟨rfl, fun hb => hb.kept (h.2.2.k) (nT1 hZ.r.blk (show 88 ≠ 163 by decide) hb)⟩, ⟨⟨rfl, fun hb => by rw [show S16 = _ from h.2.1]; exact hb.kept (h.2.2.k) (nT1 hZ.r.blk (show 127 ≠ 163 by decide) hb)⟩, trivial⟩⟩) ?_; clear F H A; intro S16 vv W A hR H F; obtain ⟨rfl, hS16, hZ9⟩ := hR
    replace H : Hp w0 _ [⟨b12, 88, #[(.string S1.bin), (.int .u8 0)]⟩, ⟨t, 127, #[(.int .i64 v), (.pointer (some ⟨r, 0, none⟩)), (.bool S16.b)]⟩] := H
    replace hO := own_T hO hZ9.k (oT1 hZ.r.blk (show 163 ≠ 88 by decide))
    replace hZ := hZ.step hZ9 tt1; clear hZ9
    have h816 := num1_lt S11
    refine zd ?_; intro A F
    refine zs [] (#[(.string S1.bin), (.int .u8 ((S11.num 1 : Int)))]) ?_; intro W H9 hk
    replace hO := og_new hO hne_hO_b12 hk
    replace hZ := hZ.st (H.b.at_ (j := 0) rfl).1 (show 88 ≠ 5 by decide) (show 88 ≠ 163 by decide) (.inl hN_hZ_b12) hk
    clear H hk; have H := H9; clear H9
    refine wpList_nil ?_
    exact hK13 _ _ ⟨(S11.num 1), S16, ((((((((((((((((((F.nil.cons (F.g 19 _ rfl)).cons (F.g 18 _ rfl)).cons (F.g 17 _ rfl)).cons (F.g 16 _ rfl)).cons (F.g 15 _ rfl)).cons (F.g 14 _ rfl)).cons (F.g 13 _ rfl)).cons (F.g 12 _ rfl)).cons (F.g 11 _ rfl)).cons (F.g 10 _ rfl)).cons (F.g 9 _ rfl)).cons (F.g 8 _ rfl)).cons (F.g 7 _ rfl)).cons (F.g 6 _ rfl)).cons (F.g 5 _ rfl)).cons (F.g 4 _ rfl)).cons (F.g 1 _ rfl)).cons (F.g 0 _ rfl)), H, hO, (by rw [if_pos (of_decide_eq_true hb15), ← hS11]), (by rw [if_pos (of_decide_eq_true hb15), ← hS11]; exact hS16), hZ⟩
   refine wp_skip ?_
   exact hK13 _ _ ⟨0, S11, ((((((((((((((((((F.nil.cons (F.g 19 _ rfl)).cons (F.g 18 _ rfl)).cons (F.g 17 _ rfl)).cons (F.g 16 _ rfl)).cons (F.g 15 _ rfl)).cons (F.g 14 _ rfl)).cons (F.g 13 _ rfl)).cons (F.g 12 _ rfl)).cons (F.g 11 _ rfl)).cons (F.g 10 _ rfl)).cons (F.g 9 _ rfl)).cons (F.g 8 _ rfl)).cons (F.g 7 _ rfl)).cons (F.g 6 _ rfl)).cons (F.g 5 _ rfl)).cons (F.g 4 _ rfl)).cons (F.g 1 _ rfl)).cons (F.g 0 _ rfl)), H, hO, (by rw [if_neg (of_decide_eq_false hb15)]), (by rw [if_neg (of_decide_eq_false hb15)]; exact hS11), hZ⟩
  clear F H hO; obtain ⟨o, S8, F, H, hO, ho, hS, hZ⟩ := hM
  refine gx_region ?_
  refine zd ?_; intro A F
  refine hz_do F rfl (ex_load rfl (F.e rfl) (gl_agg (#[(.string S1.bin), (.int .u8 ((o : Int)))]) rfl (ga_88 _) (gs_88 _) (fun i => H.cs 0 rfl i))) ?_; intro A F
  refine hz_bs (c := #[.string S1.bin, .int .u8 (o : Int)]) (t := 88) (m := 1) F H rfl (ex_buildSlice rfl (gx_p1 (F.e rfl) gx_p0) (by kernel_rfl)) ?_; clear F A; intro b17 W A hk hN H9 F; clear H; have H := H9; clear H9
  have hne_hO_b17 := og_lt hO hN
  have hN_hZ_b17 := Nat.le_trans hZ.k.size hN
  replace hZ := hZ.no hk
  replace hO := og_kept hO hk
  clear hk hN
  obtain ⟨i0, hi, hz0, hz1, hz2⟩ := info_parts info_filt
  obtain ⟨v9, W9, hrun, hO9, hg, _⟩ := run_append_own (P := Tryz.prog) _ w.heap.size 31 31 88 i0 _ 2 24 Tryz.underlying31 hi hz0 hz1 hz2 rfl (by decide) (.slice a acc.length c) acc.length (FC acc) hO ⟨b17, 0, none⟩ 1 1 [.string S1.bin, .int .u8 (o : Int)] rfl (blk_news (H.b.at_ (j := 0) rfl).1) (one_all rfl) (by unfold maxLen; omega) (by omega) (Nat.le_trans hZ.k.size (Nat.le_refl _))
  rw [show ([.string S1.bin, .int .u8 (o : Int)] : List Value) = FC [⟨S1.bin, o⟩] from rfl, ← FC_append, show acc.length + 1 = (acc ++ [(⟨S1.bin, o⟩ : Fi)]).length by simp] at hO9
  have hkS := kept_grown hg; obtain ⟨a9, c9, hv9⟩ := own_slice hO9; subst hv9
  refine hz_do F rfl (ex_builtin rfl (gx_l1 (F.e rfl) (gx_l1 (F.e rfl) gx_l0)) (fun cs => by simp only [builtin]; exact gx_val hrun)) ?_; intro A F
  replace H := Hp.grown H (og_base hO (hw0)) hkS (fa1 (sv_lt hne_hO_b17) (fa1 (sv_lt hne_hO_b12) (fa1 (sv_type hO (H.b.at_ (j := 2) rfl).1 (show 127 ≠ 88 by decide)) fa0)))
  replace hZ := hZ.gr hO (Nat.le_refl _) (show 88 ≠ 5 by decide) (show 88 ≠ 163 by decide) hkS
  clear hrun hg hkS; clear hO; have hO := hO9; clear hO9; generalize W9 = W at *
  refine zd ?_; intro A F
  refine wpList_nil ?_
  exact hJ4 ((n - 1)) _ _ (by have := hok.2; omega) ⟨(acc ++ [⟨S1.bin, o⟩]), a9, c9, S8, ((((F.nil.cons (gx_is (F.g 5 _ rfl) (by rfl))).cons (F.g 4 _ rfl)).cons (F.g 1 _ rfl)).cons (F.g 0 _ rfl)), H.tl.tl, hO, (filtK_round hf hnn hok ho hS).1, (filtK_round hf hnn hok ho hS).2, (by have := hok.2; simp only [List.length_append, List.length_cons, List.length_nil]; omega), hZ⟩
 refine wp_exit ?_
 refine hK3 _ _ ?_
 refine wp_seq_k (fun K18 hK18 => gx_region ?_)
 iterate 2 (refine zd ?_; intro A F)
 refine wpList_nil (hK18 _ _ ?_)
 refine gx_ret ?_
 refine (show bodyPost _ Tryz.f129 RR Exit.ret _ _ from zr ?_)
 exact (by have hK9 := filtK_end hf (by have h9 := hb9; simpa using h9); exact ⟨_, (S1, a, c), rfl, ⟨by rw [hK9], by rw [hK9], hZ, (H.b.at_ (j := 0) rfl).1, by rw [hK9]; exact hO⟩⟩)
structure FdP (w : World) (v : Int) (t r : Nat) (K : Pk × Ts) (S1 : Ts) (P1 : Pk) (s1 : Sl) (u : Value) (W : World) : Prop where
 u : u = P1.val s1
 s : S1 = K.2
 p : P1 = K.1
 z : Rk w (Tt t r) r S1 W
 tb : Blk W t 127 #[.int .i64 v, .pointer (some ⟨r, 0, none⟩), .bool S1.b]
 at_ : P1.At s1 W
 sc : s1.ca = none → P1.codes.length = 0 ∧ s1.cc = 0
 lo : ∀ b off, (s1.fa = some ⟨b, off, none⟩ → P1.filters ≠ [] → w.heap.size ≤ b) ∧ (s1.ca = some ⟨b, off, none⟩ → P1.codes ≠ [] → w.heap.size ≤ b)
theorem own_lo {W : World} {e : TypeId} {B B0 k n c : Nat} {a : Option Addr} {xs : List Value} (h : W.ownsRow B e k (.slice a n c) n xs) (hB : B0 ≤ B) : ∀ b off, a = some ⟨b, off, none⟩ → B0 ≤ b := fun b off e => by
 subst e
 have h9 := h.2
 rcases h9 with ⟨h1, _⟩ | ⟨g, cap, cur, h1, h2, _⟩
 ·injection h1 with h1; cases h1
 ·injection h1 with h1
  injection h1 with h1
  injection h1 with h1
  omega
section
variable {v k : Int} {f : Nat} {s : Ts}
theorem fk1 (h : k = 1) : fieldsK v k f s = connK v s := if_pos h
theorem fk2 (h : k = 2) : fieldsK v k f s = connackK v s := (if_neg (by omega)).trans (if_pos h)
theorem fk3 (h : k = 3) : fieldsK v k f s = publK v f s := (if_neg (by omega)).trans ((if_neg (by omega)).trans (if_pos h))
theorem fk4 (h : k = 4 ∨ k = 5 ∨ k = 6 ∨ k = 7) : fieldsK v k f s = shortK v { zk k with id := s.num 2 } (s.rd 2) := (if_neg (by omega)).trans ((if_neg (by omega)).trans ((if_neg (by omega)).trans (if_pos h)))
theorem fk8 (h : k = 8 ∨ k = 10) : fieldsK v k f s = ({ zk k with id := s.num 2, props := (s.rd 2).sec v, filters := (filtK k ((s.rd 2).rdS v).l.length ((s.rd 2).rdS v)).1 }, (filtK k ((s.rd 2).rdS v).l.length ((s.rd 2).rdS v)).2) := (if_neg (by omega)).trans ((if_neg (by omega)).trans ((if_neg (by omega)).trans ((if_neg (by omega)).trans (if_pos h))))
theorem fk9 (h : k = 9 ∨ k = 11) : fieldsK v k f s = ({ zk k with id := s.num 2, props := (s.rd 2).sec v, codes := ((s.rd 2).rdS v).l }, ((s.rd 2).rdS v).rdR) := (if_neg (by omega)).trans ((if_neg (by omega)).trans ((if_neg (by omega)).trans ((if_neg (by omega)).trans ((if_neg (by omega)).trans (if_pos h)))))
theorem fk14 (h : k = 14 ∨ k = 15) : fieldsK v k f s = shortK v (zk k) s := (if_neg (by omega)).trans ((if_neg (by omega)).trans ((if_neg (by omega)).trans ((if_neg (by omega)).trans ((if_neg (by omega)).trans ((if_neg (by omega)).trans (if_pos h))))))
theorem fk0 (h1 : k ≠ 1) (h2 : k ≠ 2) (h3 : k ≠ 3) (h4 : ¬ (k = 4 ∨ k = 5 ∨ k = 6 ∨ k = 7)) (h8 : ¬ (k = 8 ∨ k = 10)) (h9 : ¬ (k = 9 ∨ k = 11)) (h14 : ¬ (k = 14 ∨ k = 15)) : fieldsK v k f s = (zk k, s) := (if_neg h1).trans ((if_neg h2).trans ((if_neg h3).trans ((if_neg h4).trans ((if_neg h8).trans ((if_neg h9).trans (if_neg h14))))))
end
theorem cv_bytes (w : World) (l : List UInt8) : ∃ b c w', (convert 9 25 (.string ⟨l.toArray⟩)).run Tryz.prog w = .ok (.slice (some ⟨b, 0, none⟩) l.length c) w' ∧ Row w' (some ⟨b, 0, none⟩) (B8 l) ∧ Kept No w w' ∧ w.heap.size ≤ b := by
 have hcv := Lib.run_convert_string_bytes (P := Tryz.prog) w 9 25 5 ⟨l.toArray⟩ Tryz.underlying9 Tryz.underlying25 Tryz.underlying5
 rw [ba_size] at hcv
 obtain ⟨h1, h2⟩ := bytes_world w l
 exact ⟨_, _, _, hcv, h2, h1, Nat.le_refl _⟩
set_option maxHeartbeats 8000000 in
theorem fields_any9 (w0 w : World) (t r : Nat) (v : Int) (S : Ts) (H : Hp w0 w [⟨t, 127, #[(.int .i64 v), (.pointer (some ⟨r, 0, none⟩)), (.bool S.b)]⟩]) (hr0 : w0.heap.size ≤ r) (hR : Rdr w r S.l S.e) (hn : S.l.length ≤ 100000) (k : Int) (fl : Nat) (hh hr : Int) (hfl : fl < 256) (hT : Tabs w0) :
  Calls Tryz.prog 81 #[.pointer (some ⟨t, 0, none⟩), .agg #[.int .i64 k, .int .u8 (fl : Int), .int .i64 hh, .int .i64 hr]] w fun e w' => ∃ u, ∃ x : Ts × Pk × Sl, e = .returned u ∧ (fun x => FdP w v t r (fieldsK v k fl S) x.1 x.2.1 x.2.2) x u w' := by
 have HB := H; clear H
 let RR : Ending → World → Prop := fun e w' => ∃ u, ∃ x : Ts × Pk × Sl, e = .returned u ∧ (fun x => FdP w v t r (fieldsK v k fl S) x.1 x.2.1 x.2.2) x u w'
 go_enter Tryz.func81, Tryz.ntmps81
 generalize hA : ({ tmps := _, defers := [] } : Act) = A
 have F : Fr A 80 [(1, (.agg #[(.int .i64 k), (.int .u8 ((fl : Int))), (.int .i64 hh), (.int .i64 hr)])), (0, (.pointer (some ⟨t, 0, none⟩)))] := by rw [← hA]; exact (Fr.cons (i := 1) (v := (.agg #[(.int .i64 k), (.int .u8 ((fl : Int))), (.int .i64 hh), (.int .i64 hr)])) (Fr.cons (i := 0) (v := (.pointer (some ⟨t, 0, none⟩))) (Fr.nil0 rfl rfl) rfl) rfl)
 clear hA; have H := HB; clear HB
 have hZ : Rk w (Tt t r) r S w := Rk.start hR hn; clear hR hn
 refine wp_seq_k (fun K1 hK1 => gx_region ?_)
 refine hz_new (c := #[(.int .i64 k), (.int .u8 ((fl : Int))), (.int .i64 hh), (.int .i64 hr)]) (t := 52) F H rfl (ex_box rfl (F.e rfl) (gx_box _ _)) ?_; clear F A; intro hb W A hk hN H9 F; clear H; have H := H9; clear H9
 have hN_hZ_hb := Nat.le_trans hZ.k.size hN
 replace hZ := hZ.no hk
 clear hk hN
 refine hz_new (c := zeroPk) (t := 33) F H rfl (ex_alloc rfl (al_33 _)) ?_; clear F A; intro rs W A hk hN H9 F; clear H; have H := H9; clear H9
 have hN_hZ_rs := Nat.le_trans hZ.k.size hN
 replace hZ := hZ.no hk
 clear hk hN
 refine wpList_nil (hK1 _ _ ?_)
 refine wp_seq_k (fun K2 hK2 => gx_region ?_)
 iterate 2 (refine zd ?_; intro A F)
 refine hz_do (v := (Pk.val ((zk k)) ts)) F rfl (ex_build rfl (gx_p1 (F.e rfl) gx_p0) (by kernel_rfl)) ?_; intro A F
 refine hz_new (c := zeroPk) (t := 33) F H rfl (ex_alloc rfl (al_33 _)) ?_; clear F A; intro q W A hk hN H9 F; clear H; have H := H9; clear H9
 have hN_hZ_q := Nat.le_trans hZ.k.size hN
 replace hZ := hZ.no hk
 clear hk hN
 obtain ⟨W9, hr, hB, hk⟩ := gx_storeAgg (P := Tryz.prog) (S := 33) (c := (Pk.cells ((zk k)) ts)) _ (H.b.at_ (j := 0) rfl).1 (gs_33 _) rfl (pk_one _ _)
 replace hZ := hZ.st (H.b.at_ (j := 0) rfl).1 (show 33 ≠ 5 by decide) (show 33 ≠ 163 by decide) (.inl hN_hZ_q) hk
 refine hz_st (ex_store rfl (F.e rfl) (F.e rfl) hr) ?_; clear hr; replace H : Hp _ _ [_, _, _, _] := Hp.turn [] H hk hB; clear hk hB
 refine wpList_nil (hK2 _ _ ?_)
 refine wp_seq_k (fun K3 hK3 => ?_)
 refine wp_seq_k (fun K4 hK4 => ?_)
 have htq : t < q := H.b.2.2.1 _ (.tail _ (.tail _ (.head _)))
 have hne_rs : rs ≠ q := Nat.ne_of_lt (H.b.2.2.1 _ (.head _))
 refine gx_region ?_
 iterate 2 (refine zd ?_; intro A F)
 refine wpList_nil (hK4 _ _ ?_)
 refine wp_block ?_
 refine wp_seq_k (fun K5 hK5 => gx_region ?_)
 refine zb (rn_eql) ?_; intro A F
 refine zd ?_; intro A F
 refine wpList_nil (hK5 _ _ ?_)
 refine zc (fun hb6 => ?_) (fun hb6 => ?_)
 ·skip
  refine gx_region ?_
  refine zd ?_; intro A F
  obtain ⟨htb, ht0⟩ := H.b.at_ (j := 3) rfl
  obtain ⟨hqb, hq0⟩ := H.b.at_ (j := 0) rfl
  refine hz_callX (fun (x : Ts × Pk × Sl) => [⟨q, 33, (Pk.cells x.2.1 x.2.2)⟩, ⟨rs, 33, zeroPk⟩, ⟨hb, 52, #[(.int .i64 k), (.int .u8 ((fl : Int))), (.int .i64 hh), (.int .i64 hr)]⟩, ⟨t, 127, #[(.int .i64 v), (.pointer (some ⟨r, 0, none⟩)), (.bool x.1.b)]⟩]) (fun x => KcP _ v t q r (connK v S) x.1 x.2.1 x.2.2) F rfl (ex_call rfl rfl (gx_l1 (F.e rfl) (gx_l1 (F.e rfl) gx_l0)) fn_123) (connect_any9 w0 _ t q r v S ((zk k)) ts ⟨H.k, hqb, hq0, (by intro y hy; simp at hy; subst hy; exact htq), htb, ht0, by simp, trivial⟩ hr0 hZ.r hZ.n ⟨rfl, rowW rfl, rfl, rfl, ⟨rfl, rfl⟩⟩ (congrArg zk (of_decide_eq_true hb6)) hT) (fun x9 _ _ h => Hp.re H (h.z.k) (fun i9 e9 => by rcases e9 with e9 | e9 | e9 <;> (rw [e9]; first | exact hr0 | exact ht0 | exact hq0)) ⟨⟨rfl, fun _ => h.qb⟩, ⟨⟨rfl, fun hb => hb.kept (h.z.k) (nT4 hZ.r.blk (show 33 ≠ 163 by decide) htb (show 33 ≠ 127 by decide) hne_rs hb)⟩, ⟨⟨rfl, fun hb => hb.kept (h.z.k) (nT3 hZ.r.blk (show 52 ≠ 163 by decide) htb (show 52 ≠ 127 by decide) hqb (show 52 ≠ 33 by decide) hb)⟩, ⟨⟨rfl, fun _ => h.tb⟩, trivial⟩⟩⟩⟩) ?_; clear F H A; intro x9 vv W A hR H F; obtain ⟨S7, P7, s7⟩ := x9; replace hR : KcP _ v t q r (connK v S) S7 P7 s7 vv W := hR; obtain ⟨rfl, hS7, hP7, hZ9, -, -, hPw7, hPp7, hnf7, hnc7, hsc7⟩ := hR
  replace H : Hp w0 _ [⟨q, 33, (Pk.cells P7 s7)⟩, ⟨rs, 33, zeroPk⟩, ⟨hb, 52, #[(.int .i64 k), (.int .u8 ((fl : Int))), (.int .i64 hh), (.int .i64 hr)]⟩, ⟨t, 127, #[(.int .i64 v), (.pointer (some ⟨r, 0, none⟩)), (.bool S7.b)]⟩] := H
  replace hZ := hZ.stepq hZ9 hN_hZ_q; clear hZ9
  clear htb ht0
  clear hqb hq0
  refine wpList_nil (hK3 _ _ ?_)
  refine wp_seq_k (fun K8 hK8 => gx_region ?_)
  refine hz_do F rfl (ex_load rfl (F.e rfl) (gl_agg ((Pk.cells P7 s7)) rfl (ga_33 _) (gs_33 _) (fun i => H.cs 0 rfl i))) ?_; intro A F
  obtain ⟨W9, hr, hB, hk⟩ := gx_storeAgg (P := Tryz.prog) (S := 33) (c := (Pk.cells P7 s7)) _ (H.b.at_ (j := 1) rfl).1 (gs_33 _) rfl (pk_one _ _)
  replace hZ := hZ.st (H.b.at_ (j := 1) rfl).1 (show 33 ≠ 5 by decide) (show 33 ≠ 163 by decide) (.inl hN_hZ_rs) hk
  replace hPw7 := hPw7.propK hk (uOne (H.b.at_ (j := 1) rfl).1 (nuPk (zk 0) ts))
  replace hPp7 := hPp7.propK hk (uOne (H.b.at_ (j := 1) rfl).1 (nuPk (zk 0) ts))
  refine hz_st (ex_store rfl (F.e rfl) (F.e rfl) hr) ?_; clear hr; replace H : Hp _ _ [_, _, _, _] := Hp.turn [_] H hk hB; clear hk hB
  refine wpList_nil (hK8 _ _ ?_)
  refine gx_ret ?_
  refine (show bodyPost _ Tryz.f81 RR Exit.ret _ _ from ?_)
  exact bodyPost_ret (fn := Tryz.f81) (gx_resc rfl (F.g 4 _ rfl) (gl_agg ((Pk.cells P7 s7)) rfl (ga_33 _) (gs_33 _) (fun i => H.cs 1 rfl i))) F.d ((by have hK9 := fk1 (v := v) (k := k) (f := fl) (s := S) (by have := of_decide_eq_true hb6; omega); subst hP7 hS7; exact ⟨_, (_, _, s7), rfl, ⟨rfl, (congrArg Prod.snd hK9).symm, (congrArg Prod.fst hK9).symm, hZ, (H.b.at_ (j := 3) rfl).1, ⟨hPw7, rowFi hnf7, rowBy hnc7, hPp7⟩, fun _ => ⟨by rw [hnc7]; rfl, hsc7.2⟩, (fun b9 off9 => ⟨fun _ h9 => absurd hnf7 h9, fun _ h9 => absurd hnc7 h9⟩)⟩⟩))
 refine wp_seq_k (fun K9 hK9 => gx_region ?_)
 refine zb (rn_eql) ?_; intro A F
 refine zd ?_; intro A F
 refine wpList_nil (hK9 _ _ ?_)
 refine zc (fun hb10 => ?_) (fun hb10 => ?_)
 ·skip
  refine gx_region ?_
  refine zd ?_; intro A F
  obtain ⟨htb, ht0⟩ := H.b.at_ (j := 3) rfl
  obtain ⟨hqb, hq0⟩ := H.b.at_ (j := 0) rfl
  refine hz_callX (fun (x : Ts × Pk × Sl) => [⟨q, 33, (Pk.cells x.2.1 x.2.2)⟩, ⟨rs, 33, zeroPk⟩, ⟨hb, 52, #[(.int .i64 k), (.int .u8 ((fl : Int))), (.int .i64 hh), (.int .i64 hr)]⟩, ⟨t, 127, #[(.int .i64 v), (.pointer (some ⟨r, 0, none⟩)), (.bool x.1.b)]⟩]) (fun x => KcP _ v t q r (connackK v S) x.1 x.2.1 x.2.2) F rfl (ex_call rfl rfl (gx_l1 (F.e rfl) (gx_l1 (F.e rfl) gx_l0)) fn_124) (connack_any9 w0 _ t q r v S ((zk k)) ts ⟨H.k, hqb, hq0, (by intro y hy; simp at hy; subst hy; exact htq), htb, ht0, by simp, trivial⟩ hr0 hZ.r hZ.n ⟨rfl, rowW rfl, rfl, rfl, ⟨rfl, rfl⟩⟩ (congrArg zk (of_decide_eq_true hb10)) hT) (fun x9 _ _ h => Hp.re H (h.z.k) (fun i9 e9 => by rcases e9 with e9 | e9 | e9 <;> (rw [e9]; first | exact hr0 | exact ht0 | exact hq0)) ⟨⟨rfl, fun _ => h.qb⟩, ⟨⟨rfl, fun hb => hb.kept (h.z.k) (nT4 hZ.r.blk (show 33 ≠ 163 by decide) htb (show 33 ≠ 127 by decide) hne_rs hb)⟩, ⟨⟨rfl, fun hb => hb.kept (h.z.k) (nT3 hZ.r.blk (show 52 ≠ 163 by decide) htb (show 52 ≠ 127 by decide) hqb (show 52 ≠ 33 by decide) hb)⟩, ⟨⟨rfl, fun _ => h.tb⟩, trivial⟩⟩⟩⟩) ?_; clear F H A; intro x9 vv W A hR H F; obtain ⟨S11, P11, s11⟩ := x9; replace hR : KcP _ v t q r (connackK v S) S11 P11 s11 vv W := hR; obtain ⟨rfl, hS11, hP11, hZ9, -, -, hPw11, hPp11, hnf11, hnc11, hsc11⟩ := hR
  replace H : Hp w0 _ [⟨q, 33, (Pk.cells P11 s11)⟩, ⟨rs, 33, zeroPk⟩, ⟨hb, 52, #[(.int .i64 k), (.int .u8 ((fl : Int))), (.int .i64 hh), (.int .i64 hr)]⟩, ⟨t, 127, #[(.int .i64 v), (.pointer (some ⟨r, 0, none⟩)), (.bool S11.b)]⟩] := H
  replace hZ := hZ.stepq hZ9 hN_hZ_q; clear hZ9
  clear htb ht0
  clear hqb hq0
  refine wpList_nil (hK3 _ _ ?_)
  refine wp_seq_k (fun K12 hK12 => gx_region ?_)
  refine hz_do F rfl (ex_load rfl (F.e rfl) (gl_agg ((Pk.cells P11 s11)) rfl (ga_33 _) (gs_33 _) (fun i => H.cs 0 rfl i))) ?_; intro A F
  obtain ⟨W9, hr, hB, hk⟩ := gx_storeAgg (P := Tryz.prog) (S := 33) (c := (Pk.cells P11 s11)) _ (H.b.at_ (j := 1) rfl).1 (gs_33 _) rfl (pk_one _ _)
  replace hZ := hZ.st (H.b.at_ (j := 1) rfl).1 (show 33 ≠ 5 by decide) (show 33 ≠ 163 by decide) (.inl hN_hZ_rs) hk
  replace hPw11 := hPw11.propK hk (uOne (H.b.at_ (j := 1) rfl).1 (nuPk (zk 0) ts))
  replace hPp11 := hPp11.propK hk (uOne (H.b.at_ (j := 1) rfl).1 (nuPk (zk 0) ts))
  refine hz_st (ex_store rfl (F.e rfl) (F.e rfl) hr) ?_; clear hr; replace H : Hp _ _ [_, _, _, _] := Hp.turn [_] H hk hB; clear hk hB
  refine wpList_nil (hK12 _ _ ?_)
  refine gx_ret ?_
  refine (show bodyPost _ Tryz.f81 RR Exit.ret _ _ from ?_)
  exact bodyPost_ret (fn := Tryz.f81) (gx_resc rfl (F.g 4 _ rfl) (gl_agg ((Pk.cells P11 s11)) rfl (ga_33 _) (gs_33 _) (fun i => H.cs 1 rfl i))) F.d ((by have hK9 := fk2 (v := v) (k := k) (f := fl) (s := S) (by have := of_decide_eq_true hb10; omega); subst hP11 hS11; exact ⟨_, (_, _, s11), rfl, ⟨rfl, (congrArg Prod.snd hK9).symm, (congrArg Prod.fst hK9).symm, hZ, (H.b.at_ (j := 3) rfl).1, ⟨hPw11, rowFi hnf11, rowBy hnc11, hPp11⟩, fun _ => ⟨by rw [hnc11]; rfl, hsc11.2⟩, (fun b9 off9 => ⟨fun _ h9 => absurd hnf11 h9, fun _ h9 => absurd hnc11 h9⟩)⟩⟩))
 refine wp_seq_k (fun K13 hK13 => gx_region ?_)
 refine zb (rn_eql) ?_; intro A F
 refine zd ?_; intro A F
 refine wpList_nil (hK13 _ _ ?_)
 refine zc (fun hb14 => ?_) (fun hb14 => ?_)
 ·skip
  refine gx_region ?_
  iterate 3 (refine zd ?_; intro A F)
  obtain ⟨htb, ht0⟩ := H.b.at_ (j := 3) rfl
  obtain ⟨hqb, hq0⟩ := H.b.at_ (j := 0) rfl
  refine hz_callX (fun (x : Ts × Pk × Sl) => [⟨q, 33, (Pk.cells x.2.1 x.2.2)⟩, ⟨rs, 33, zeroPk⟩, ⟨hb, 52, #[(.int .i64 k), (.int .u8 ((fl : Int))), (.int .i64 hh), (.int .i64 hr)]⟩, ⟨t, 127, #[(.int .i64 v), (.pointer (some ⟨r, 0, none⟩)), (.bool x.1.b)]⟩]) (fun x => KcP _ v t q r (publK v fl S) x.1 x.2.1 x.2.2) F rfl (ex_call rfl rfl (gx_l1 (F.e rfl) (gx_l1 (F.e rfl) (gx_l1 (F.e rfl) gx_l0))) fn_125) (publish_any9 w0 _ t q r v S ((zk k)) ts ⟨H.k, hqb, hq0, (by intro y hy; simp at hy; subst hy; exact htq), htb, ht0, by simp, trivial⟩ hr0 hZ.r hZ.n ⟨rfl, rowW rfl, rfl, rfl, ⟨rfl, rfl⟩⟩ (congrArg zk (of_decide_eq_true hb14)) fl hfl hT) (fun x9 _ _ h => Hp.re H (h.z.k) (fun i9 e9 => by rcases e9 with e9 | e9 | e9 <;> (rw [e9]; first | exact hr0 | exact ht0 | exact hq0)) ⟨⟨rfl, fun _ => h.qb⟩, ⟨⟨rfl, fun hb => hb.kept (h.z.k) (nT4 hZ.r.blk (show 33 ≠ 163 by decide) htb (show 33 ≠ 127 by decide) hne_rs hb)⟩, ⟨⟨rfl, fun hb => hb.kept (h.z.k) (nT3 hZ.r.blk (show 52 ≠ 163 by decide) htb (show 52 ≠ 127 by decide) hqb (show 52 ≠ 33 by decide) hb)⟩, ⟨⟨rfl, fun _ => h.tb⟩, trivial⟩⟩⟩⟩) ?_; clear F H A; intro x9 vv W A hR H F; obtain ⟨S15, P15, s15⟩ := x9; replace hR : KcP _ v t q r (publK v fl S) S15 P15 s15 vv W := hR; obtain ⟨rfl, hS15, hP15, hZ9, -, -, hPw15, hPp15, hnf15, hnc15, hsc15⟩ := hR
  replace H : Hp w0 _ [⟨q, 33, (Pk.cells P15 s15)⟩, ⟨rs, 33, zeroPk⟩, ⟨hb, 52, #[(.int .i64 k), (.int .u8 ((fl : Int))), (.int .i64 hh), (.int .i64 hr)]⟩, ⟨t, 127, #[(.int .i64 v), (.pointer (some ⟨r, 0, none⟩)), (.bool S15.b)]⟩] := H
  replace hZ := hZ.stepq hZ9 hN_hZ_q; clear hZ9
  clear htb ht0
  clear hqb hq0
  refine wpList_nil (hK3 _ _ ?_)
  refine wp_seq_k (fun K16 hK16 => gx_region ?_)
  refine hz_do F rfl (ex_load rfl (F.e rfl) (gl_agg ((Pk.cells P15 s15)) rfl (ga_33 _) (gs_33 _) (fun i => H.cs 0 rfl i))) ?_; intro A F
  obtain ⟨W9, hr, hB, hk⟩ := gx_storeAgg (P := Tryz.prog) (S := 33) (c := (Pk.cells P15 s15)) _ (H.b.at_ (j := 1) rfl).1 (gs_33 _) rfl (pk_one _ _)
  replace hZ := hZ.st (H.b.at_ (j := 1) rfl).1 (show 33 ≠ 5 by decide) (show 33 ≠ 163 by decide) (.inl hN_hZ_rs) hk
  replace hPw15 := hPw15.propK hk (uOne (H.b.at_ (j := 1) rfl).1 (nuPk (zk 0) ts))
  replace hPp15 := hPp15.propK hk (uOne (H.b.at_ (j := 1) rfl).1 (nuPk (zk 0) ts))
  refine hz_st (ex_store rfl (F.e rfl) (F.e rfl) hr) ?_; clear hr; replace H : Hp _ _ [_, _, _, _] := Hp.turn [_] H hk hB; clear hk hB
  refine wpList_nil (hK16 _ _ ?_)
  refine gx_ret ?_
  refine (show bodyPost _ Tryz.f81 RR Exit.ret _ _ from ?_)
  exact bodyPost_ret (fn := Tryz.f81) (gx_resc rfl (F.g 4 _ rfl) (gl_agg ((Pk.cells P15 s15)) rfl (ga_33 _) (gs_33 _) (fun i => H.cs 1 rfl i))) F.d ((by have hK9 := fk3 (v := v) (k := k) (f := fl) (s := S) (by have := of_decide_eq_true hb14; omega); subst hP15 hS15; exact ⟨_, (_, _, s15), rfl, ⟨rfl, (congrArg Prod.snd hK9).symm, (congrArg Prod.fst hK9).symm, hZ, (H.b.at_ (j := 3) rfl).1, ⟨hPw15, rowFi hnf15, rowBy hnc15, hPp15⟩, fun _ => ⟨by rw [hnc15]; rfl, hsc15.2⟩, (fun b9 off9 => ⟨fun _ h9 => absurd hnf15 h9, fun _ h9 => absurd hnc15 h9⟩)⟩⟩))
 refine wp_seq_k (fun K17 hK17 => ?_)
 refine wp_seq_k (fun K18 hK18 => gx_region ?_)
 refine zb (rn_eql) ?_; intro A F
 refine zd ?_; intro A F
 refine wpList_nil (hK18 _ _ ?_)
 refine zc (fun hb19 => ?_) (fun hb19 => ?_)
 ·skip
  refine wp_skip (hK17 _ _ ?_)
  refine wp_cond_true ((F.e rfl).trans (congrArg Value.bool hb19)) ?_
  refine wp_seq_k (fun K20 hK20 => gx_region ?_)
  refine zd ?_; intro A F
  refine hz_do F rfl (ex_nil rfl (F.e rfl)) ?_; intro A F
  iterate 2 (refine zd ?_; intro A F)
  refine hz_callX (fun (x : Ts) => [⟨q, 33, (Pk.cells ((zk k)) ts)⟩, ⟨rs, 33, zeroPk⟩, ⟨hb, 52, #[(.int .i64 k), (.int .u8 ((fl : Int))), (.int .i64 hh), (.int .i64 hr)]⟩, ⟨t, 127, #[(.int .i64 v), (.pointer (some ⟨r, 0, none⟩)), (.bool x.b)]⟩]) (RdP _ r (.int .u16 ((S.num 2 : Int))) (S.rd 2)) F rfl (ex_call rfl rfl (gx_l1 (F.e rfl) gx_l0) fn_126) (kTwo hZ) (fun S21 _ _ h => Hp.re H (h.2.2.k) (fun i9 (e9 : i9 = r) => by rw [e9]; exact hr0) ⟨⟨rfl, fun hb => hb.kept (h.2.2.k) (nT1 hZ.r.blk (show 33 ≠ 163 by decide) hb)⟩, ⟨⟨rfl, fun hb => hb.kept (h.2.2.k) (nT1 hZ.r.blk (show 33 ≠ 163 by decide) hb)⟩, ⟨⟨rfl, fun hb => hb.kept (h.2.2.k) (nT1 hZ.r.blk (show 52 ≠ 163 by decide) hb)⟩, ⟨⟨rfl, fun hb => by rw [show S21 = _ from h.2.1]; exact hb.kept (h.2.2.k) (nT1 hZ.r.blk (show 127 ≠ 163 by decide) hb)⟩, trivial⟩⟩⟩⟩) ?_; clear F H A; intro S21 vv W A hR H F; obtain ⟨rfl, hS21, hZ9⟩ := hR
  replace H : Hp w0 _ [⟨q, 33, (Pk.cells ((zk k)) ts)⟩, ⟨rs, 33, zeroPk⟩, ⟨hb, 52, #[(.int .i64 k), (.int .u8 ((fl : Int))), (.int .i64 hh), (.int .i64 hr)]⟩, ⟨t, 127, #[(.int .i64 v), (.pointer (some ⟨r, 0, none⟩)), (.bool S21.b)]⟩] := H
  replace hZ := hZ.step hZ9 tt1; clear hZ9
  refine zd ?_; intro A F
  let P22 : Pk := { (zk k) with id := S.num 2 }
  refine zs [] ((Pk.cells P22 ts)) ?_; intro W H9 hk
  replace hZ := hZ.st (H.b.at_ (j := 0) rfl).1 (show 33 ≠ 5 by decide) (show 33 ≠ 163 by decide) (.inl hN_hZ_q) hk
  clear H hk; have H := H9; clear H9
  refine wpList_nil (hK20 _ _ ?_)
  refine gx_region ?_
  refine zd ?_; intro A F
  obtain ⟨htb, ht0⟩ := H.b.at_ (j := 3) rfl
  obtain ⟨hqb, hq0⟩ := H.b.at_ (j := 0) rfl
  refine hz_callX (fun (x : Ts × Pk × Sl) => [⟨q, 33, (Pk.cells x.2.1 x.2.2)⟩, ⟨rs, 33, zeroPk⟩, ⟨hb, 52, #[(.int .i64 k), (.int .u8 ((fl : Int))), (.int .i64 hh), (.int .i64 hr)]⟩, ⟨t, 127, #[(.int .i64 v), (.pointer (some ⟨r, 0, none⟩)), (.bool x.1.b)]⟩]) (fun x => KcP _ v t q r (shortK v P22 S21) x.1 x.2.1 x.2.2) F rfl (ex_call rfl rfl (gx_l1 (F.e rfl) (gx_l1 (F.e rfl) gx_l0)) fn_127) (short_any9 w0 _ t q r v S21 P22 ts ⟨H.k, hqb, hq0, (by intro y hy; simp at hy; subst hy; exact htq), htb, ht0, by simp, trivial⟩ hr0 hZ.r hZ.n ⟨rfl, rowW rfl, rfl, rfl, ⟨rfl, rfl⟩⟩ hT) (fun x9 _ _ h => Hp.re H (h.z.k) (fun i9 e9 => by rcases e9 with e9 | e9 | e9 <;> (rw [e9]; first | exact hr0 | exact ht0 | exact hq0)) ⟨⟨rfl, fun _ => h.qb⟩, ⟨⟨rfl, fun hb => hb.kept (h.z.k) (nT4 hZ.r.blk (show 33 ≠ 163 by decide) htb (show 33 ≠ 127 by decide) hne_rs hb)⟩, ⟨⟨rfl, fun hb => hb.kept (h.z.k) (nT3 hZ.r.blk (show 52 ≠ 163 by decide) htb (show 52 ≠ 127 by decide) hqb (show 52 ≠ 33 by decide) hb)⟩, ⟨⟨rfl, fun _ => h.tb⟩, trivial⟩⟩⟩⟩) ?_; clear F H A; intro x9 vv W A hR H F; obtain ⟨S23, P23, s23⟩ := x9; replace hR : KcP _ v t q r (shortK v P22 S21) S23 P23 s23 vv W := hR; obtain ⟨rfl, hS23, hP23, hZ9, -, -, hPw23, hPp23, hnf23, hnc23, hsc23⟩ := hR
  replace H : Hp w0 _ [⟨q, 33, (Pk.cells P23 s23)⟩, ⟨rs, 33, zeroPk⟩, ⟨hb, 52, #[(.int .i64 k), (.int .u8 ((fl : Int))), (.int .i64 hh), (.int .i64 hr)]⟩, ⟨t, 127, #[(.int .i64 v), (.pointer (some ⟨r, 0, none⟩)), (.bool S23.b)]⟩] := H
  replace hZ := hZ.stepq hZ9 hN_hZ_q; clear hZ9
  clear htb ht0
  clear hqb hq0
  refine wpList_nil (hK3 _ _ ?_)
  refine wp_seq_k (fun K24 hK24 => gx_region ?_)
  refine hz_do F rfl (ex_load rfl (F.e rfl) (gl_agg ((Pk.cells P23 s23)) rfl (ga_33 _) (gs_33 _) (fun i => H.cs 0 rfl i))) ?_; intro A F
  obtain ⟨W9, hr, hB, hk⟩ := gx_storeAgg (P := Tryz.prog) (S := 33) (c := (Pk.cells P23 s23)) _ (H.b.at_ (j := 1) rfl).1 (gs_33 _) rfl (pk_one _ _)
  replace hZ := hZ.st (H.b.at_ (j := 1) rfl).1 (show 33 ≠ 5 by decide) (show 33 ≠ 163 by decide) (.inl hN_hZ_rs) hk
  replace hPw23 := hPw23.propK hk (uOne (H.b.at_ (j := 1) rfl).1 (nuPk (zk 0) ts))
  replace hPp23 := hPp23.propK hk (uOne (H.b.at_ (j := 1) rfl).1 (nuPk (zk 0) ts))
  refine hz_st (ex_store rfl (F.e rfl) (F.e rfl) hr) ?_; clear hr; replace H : Hp _ _ [_, _, _, _] := Hp.turn [_] H hk hB; clear hk hB
  refine wpList_nil (hK24 _ _ ?_)
  refine gx_ret ?_
  refine (show bodyPost _ Tryz.f81 RR Exit.ret _ _ from ?_)
  exact bodyPost_ret (fn := Tryz.f81) (gx_resc rfl (F.g 4 _ rfl) (gl_agg ((Pk.cells P23 s23)) rfl (ga_33 _) (gs_33 _) (fun i => H.cs 1 rfl i))) F.d ((by have hK9 := fk4 (v := v) (k := k) (f := fl) (s := S) (by have := of_decide_eq_true hb19; omega); subst hP23 hS23 hS21; exact ⟨_, (_, _, s23), rfl, ⟨rfl, (congrArg Prod.snd hK9).symm, (congrArg Prod.fst hK9).symm, hZ, (H.b.at_ (j := 3) rfl).1, ⟨hPw23, rowFi hnf23, rowBy hnc23, hPp23⟩, fun _ => ⟨by rw [hnc23]; rfl, hsc23.2⟩, (fun b9 off9 => ⟨fun _ h9 => absurd hnf23 h9, fun _ h9 => absurd hnc23 h9⟩)⟩⟩))
 refine wp_seq_k (fun K25 hK25 => gx_region ?_)
 refine zb (rn_eql) ?_; intro A F
 refine zd ?_; intro A F
 refine wpList_nil (hK25 _ _ ?_)
 refine zc (fun hb26 => ?_) (fun hb26 => ?_)
 ·skip
  replace F := ((((((F.nil.cons (F.g 25 _ rfl)).cons (F.g 10 _ rfl)).cons (F.g 5 _ rfl)).cons (F.g 4 _ rfl)).cons (F.g 3 _ rfl)).cons (F.g 0 _ rfl))
  refine wp_skip (hK17 _ _ ?_)
  refine wp_cond_true ((F.e rfl).trans (congrArg Value.bool hb26)) ?_
  refine wp_seq_k (fun K27 hK27 => gx_region ?_)
  refine zd ?_; intro A F
  refine hz_do F rfl (ex_nil rfl (F.e rfl)) ?_; intro A F
  iterate 2 (refine zd ?_; intro A F)
  refine hz_callX (fun (x : Ts) => [⟨q, 33, (Pk.cells ((zk k)) ts)⟩, ⟨rs, 33, zeroPk⟩, ⟨hb, 52, #[(.int .i64 k), (.int .u8 ((fl : Int))), (.int .i64 hh), (.int .i64 hr)]⟩, ⟨t, 127, #[(.int .i64 v), (.pointer (some ⟨r, 0, none⟩)), (.bool x.b)]⟩]) (RdP _ r (.int .u16 ((S.num 2 : Int))) (S.rd 2)) F rfl (ex_call rfl rfl (gx_l1 (F.e rfl) gx_l0) fn_126) (kTwo hZ) (fun S28 _ _ h => Hp.re H (h.2.2.k) (fun i9 (e9 : i9 = r) => by rw [e9]; exact hr0) ⟨⟨rfl, fun hb => hb.kept (h.2.2.k) (nT1 hZ.r.blk (show 33 ≠ 163 by decide) hb)⟩, ⟨⟨rfl, fun hb => hb.kept (h.2.2.k) (nT1 hZ.r.blk (show 33 ≠ 163 by decide) hb)⟩, ⟨⟨rfl, fun hb => hb.kept (h.2.2.k) (nT1 hZ.r.blk (show 52 ≠ 163 by decide) hb)⟩, ⟨⟨rfl, fun hb => by rw [show S28 = _ from h.2.1]; exact hb.kept (h.2.2.k) (nT1 hZ.r.blk (show 127 ≠ 163 by decide) hb)⟩, trivial⟩⟩⟩⟩) ?_; clear F H A; intro S28 vv W A hR H F; obtain ⟨rfl, hS28, hZ9⟩ := hR
  replace H : Hp w0 _ [⟨q, 33, (Pk.cells ((zk k)) ts)⟩, ⟨rs, 33, zeroPk⟩, ⟨hb, 52, #[(.int .i64 k), (.int .u8 ((fl : Int))), (.int .i64 hh), (.int .i64 hr)]⟩, ⟨t, 127, #[(.int .i64 v), (.pointer (some ⟨r, 0, none⟩)), (.bool S28.b)]⟩] := H
  replace hZ := hZ.step hZ9 tt1; clear hZ9
  refine zd ?_; intro A F
  let P29 : Pk := { (zk k) with id := S.num 2 }
  refine zs [] ((Pk.cells P29 ts)) ?_; intro W H9 hk
  replace hZ := hZ.st (H.b.at_ (j := 0) rfl).1 (show 33 ≠ 5 by decide) (show 33 ≠ 163 by decide) (.inl hN_hZ_q) hk
  clear H hk; have H := H9; clear H9
  refine wpList_nil (hK27 _ _ ?_)
  refine gx_region ?_
  refine zd ?_; intro A F
  obtain ⟨htb, ht0⟩ := H.b.at_ (j := 3) rfl
  obtain ⟨hqb, hq0⟩ := H.b.at_ (j := 0) rfl
  refine hz_callX (fun (x : Ts × Pk × Sl) => [⟨q, 33, (Pk.cells x.2.1 x.2.2)⟩, ⟨rs, 33, zeroPk⟩, ⟨hb, 52, #[(.int .i64 k), (.int .u8 ((fl : Int))), (.int .i64 hh), (.int .i64 hr)]⟩, ⟨t, 127, #[(.int .i64 v), (.pointer (some ⟨r, 0, none⟩)), (.bool x.1.b)]⟩]) (fun x => KcP _ v t q r (shortK v P29 S28) x.1 x.2.1 x.2.2) F rfl (ex_call rfl rfl (gx_l1 (F.e rfl) (gx_l1 (F.e rfl) gx_l0)) fn_127) (short_any9 w0 _ t q r v S28 P29 ts ⟨H.k, hqb, hq0, (by intro y hy; simp at hy; subst hy; exact htq), htb, ht0, by simp, trivial⟩ hr0 hZ.r hZ.n ⟨rfl, rowW rfl, rfl, rfl, ⟨rfl, rfl⟩⟩ hT) (fun x9 _ _ h => Hp.re H (h.z.k) (fun i9 e9 => by rcases e9 with e9 | e9 | e9 <;> (rw [e9]; first | exact hr0 | exact ht0 | exact hq0)) ⟨⟨rfl, fun _ => h.qb⟩, ⟨⟨rfl, fun hb => hb.kept (h.z.k) (nT4 hZ.r.blk (show 33 ≠ 163 by decide) htb (show 33 ≠ 127 by decide) hne_rs hb)⟩, ⟨⟨rfl, fun hb => hb.kept (h.z.k) (nT3 hZ.r.blk (show 52 ≠ 163 by decide) htb (show 52 ≠ 127 by decide) hqb (show 52 ≠ 33 by decide) hb)⟩, ⟨⟨rfl, fun _ => h.tb⟩, trivial⟩⟩⟩⟩) ?_; clear F H A; intro x9 vv W A hR H F; obtain ⟨S30, P30, s30⟩ := x9; replace hR : KcP _ v t q r (shortK v P29 S28) S30 P30 s30 vv W := hR; obtain ⟨rfl, hS30, hP30, hZ9, -, -, hPw30, hPp30, hnf30, hnc30, hsc30⟩ := hR
  replace H : Hp w0 _ [⟨q, 33, (Pk.cells P30 s30)⟩, ⟨rs, 33, zeroPk⟩, ⟨hb, 52, #[(.int .i64 k), (.int .u8 ((fl : Int))), (.int .i64 hh), (.int .i64 hr)]⟩, ⟨t, 127, #[(.int .i64 v), (.pointer (some ⟨r, 0, none⟩)), (.bool S30.b)]⟩] := H
  replace hZ := hZ.stepq hZ9 hN_hZ_q; clear hZ9
  clear htb ht0
  clear hqb hq0
  refine wpList_nil (hK3 _ _ ?_)
  refine wp_seq_k (fun K31 hK31 => gx_region ?_)
  refine hz_do F rfl (ex_load rfl (F.e rfl) (gl_agg ((Pk.cells P30 s30)) rfl (ga_33 _) (gs_33 _) (fun i => H.cs 0 rfl i))) ?_; intro A F
  obtain ⟨W9, hr, hB, hk⟩ := gx_storeAgg (P := Tryz.prog) (S := 33) (c := (Pk.cells P30 s30)) _ (H.b.at_ (j := 1) rfl).1 (gs_33 _) rfl (pk_one _ _)
  replace hZ := hZ.st (H.b.at_ (j := 1) rfl).1 (show 33 ≠ 5 by decide) (show 33 ≠ 163 by decide) (.inl hN_hZ_rs) hk
  replace hPw30 := hPw30.propK hk (uOne (H.b.at_ (j := 1) rfl).1 (nuPk (zk 0) ts))
  replace hPp30 := hPp30.propK hk (uOne (H.b.at_ (j := 1) rfl).1 (nuPk (zk 0) ts))
  refine hz_st (ex_store rfl (F.e rfl) (F.e rfl) hr) ?_; clear hr; replace H : Hp _ _ [_, _, _, _] := Hp.turn [_] H hk hB; clear hk hB
  refine wpList_nil (hK31 _ _ ?_)
  refine gx_ret ?_
  refine (show bodyPost _ Tryz.f81 RR Exit.ret _ _ from ?_)
  exact bodyPost_ret (fn := Tryz.f81) (gx_resc rfl (F.g 4 _ rfl) (gl_agg ((Pk.cells P30 s30)) rfl (ga_33 _) (gs_33 _) (fun i => H.cs 1 rfl i))) F.d ((by have hK9 := fk4 (v := v) (k := k) (f := fl) (s := S) (by have := of_decide_eq_true hb26; omega); subst hP30 hS30 hS28; exact ⟨_, (_, _, s30), rfl, ⟨rfl, (congrArg Prod.snd hK9).symm, (congrArg Prod.fst hK9).symm, hZ, (H.b.at_ (j := 3) rfl).1, ⟨hPw30, rowFi hnf30, rowBy hnc30, hPp30⟩, fun _ => ⟨by rw [hnc30]; rfl, hsc30.2⟩, (fun b9 off9 => ⟨fun _ h9 => absurd hnf30 h9, fun _ h9 => absurd hnc30 h9⟩)⟩⟩))
 replace F := ((((((F.nil.cons (F.g 25 _ rfl)).cons (F.g 10 _ rfl)).cons (F.g 5 _ rfl)).cons (F.g 4 _ rfl)).cons (F.g 3 _ rfl)).cons (F.g 0 _ rfl))
 refine wp_seq_k (fun K32 hK32 => gx_region ?_)
 refine zb (rn_eql) ?_; intro A F
 refine zd ?_; intro A F
 refine wpList_nil (hK32 _ _ ?_)
 refine zc (fun hb33 => ?_) (fun hb33 => ?_)
 ·skip
  refine wp_skip (hK17 _ _ ?_)
  refine wp_cond_true ((F.e rfl).trans (congrArg Value.bool hb33)) ?_
  refine wp_seq_k (fun K34 hK34 => gx_region ?_)
  refine zd ?_; intro A F
  refine hz_do F rfl (ex_nil rfl (F.e rfl)) ?_; intro A F
  iterate 2 (refine zd ?_; intro A F)
  refine hz_callX (fun (x : Ts) => [⟨q, 33, (Pk.cells ((zk k)) ts)⟩, ⟨rs, 33, zeroPk⟩, ⟨hb, 52, #[(.int .i64 k), (.int .u8 ((fl : Int))), (.int .i64 hh), (.int .i64 hr)]⟩, ⟨t, 127, #[(.int .i64 v), (.pointer (some ⟨r, 0, none⟩)), (.bool x.b)]⟩]) (RdP _ r (.int .u16 ((S.num 2 : Int))) (S.rd 2)) F rfl (ex_call rfl rfl (gx_l1 (F.e rfl) gx_l0) fn_126) (kTwo hZ) (fun S35 _ _ h => Hp.re H (h.2.2.k) (fun i9 (e9 : i9 = r) => by rw [e9]; exact hr0) ⟨⟨rfl, fun hb => hb.kept (h.2.2.k) (nT1 hZ.r.blk (show 33 ≠ 163 by decide) hb)⟩, ⟨⟨rfl, fun hb => hb.kept (h.2.2.k) (nT1 hZ.r.blk (show 33 ≠ 163 by decide) hb)⟩, ⟨⟨rfl, fun hb => hb.kept (h.2.2.k) (nT1 hZ.r.blk (show 52 ≠ 163 by decide) hb)⟩, ⟨⟨rfl, fun hb => by rw [show S35 = _ from h.2.1]; exact hb.kept (h.2.2.k) (nT1 hZ.r.blk (show 127 ≠ 163 by decide) hb)⟩, trivial⟩⟩⟩⟩) ?_; clear F H A; intro S35 vv W A hR H F; obtain ⟨rfl, hS35, hZ9⟩ := hR
  replace H : Hp w0 _ [⟨q, 33, (Pk.cells ((zk k)) ts)⟩, ⟨rs, 33, zeroPk⟩, ⟨hb, 52, #[(.int .i64 k), (.int .u8 ((fl : Int))), (.int .i64 hh), (.int .i64 hr)]⟩, ⟨t, 127, #[(.int .i64 v), (.pointer (some ⟨r, 0, none⟩)), (.bool S35.b)]⟩] := H
  replace hZ := hZ.step hZ9 tt1; clear hZ9
  refine zd ?_; intro A F
  let P36 : Pk := { (zk k) with id := S.num 2 }
  refine zs [] ((Pk.cells P36 ts)) ?_; intro W H9 hk
  replace hZ := hZ.st (H.b.at_ (j := 0) rfl).1 (show 33 ≠ 5 by decide) (show 33 ≠ 163 by decide) (.inl hN_hZ_q) hk
  clear H hk; have H := H9; clear H9
  refine wpList_nil (hK34 _ _ ?_)
  refine gx_region ?_
  refine zd ?_; intro A F
  obtain ⟨htb, ht0⟩ := H.b.at_ (j := 3) rfl
  obtain ⟨hqb, hq0⟩ := H.b.at_ (j := 0) rfl
  refine hz_callX (fun (x : Ts × Pk × Sl) => [⟨q, 33, (Pk.cells x.2.1 x.2.2)⟩, ⟨rs, 33, zeroPk⟩, ⟨hb, 52, #[(.int .i64 k), (.int .u8 ((fl : Int))), (.int .i64 hh), (.int .i64 hr)]⟩, ⟨t, 127, #[(.int .i64 v), (.pointer (some ⟨r, 0, none⟩)), (.bool x.1.b)]⟩]) (fun x => KcP _ v t q r (shortK v P36 S35) x.1 x.2.1 x.2.2) F rfl (ex_call rfl rfl (gx_l1 (F.e rfl) (gx_l1 (F.e rfl) gx_l0)) fn_127) (short_any9 w0 _ t q r v S35 P36 ts ⟨H.k, hqb, hq0, (by intro y hy; simp at hy; subst hy; exact htq), htb, ht0, by simp, trivial⟩ hr0 hZ.r hZ.n ⟨rfl, rowW rfl, rfl, rfl, ⟨rfl, rfl⟩⟩ hT) (fun x9 _ _ h => Hp.re H (h.z.k) (fun i9 e9 => by rcases e9 with e9 | e9 | e9 <;> (rw [e9]; first | exact hr0 | exact ht0 | exact hq0)) ⟨⟨rfl, fun _ => h.qb⟩, ⟨⟨rfl, fun hb => hb.kept (h.z.k) (nT4 hZ.r.blk (show 33 ≠ 163 by decide) htb (show 33 ≠ 127 by decide) hne_rs hb)⟩, ⟨⟨rfl, fun hb => hb.kept (h.z.k) (nT3 hZ.r.blk (show 52 ≠ 163 by decide) htb (show 52 ≠ 127 by decide) hqb (show 52 ≠ 33 by decide) hb)⟩, ⟨⟨rfl, fun _ => h.tb⟩, trivial⟩⟩⟩⟩) ?_; clear F H A; intro x9 vv W A hR H F; obtain ⟨S37, P37, s37⟩ := x9; replace hR : KcP _ v t q r (shortK v P36 S35) S37 P37 s37 vv W := hR; obtain ⟨rfl, hS37, hP37, hZ9, -, -, hPw37, hPp37, hnf37, hnc37, hsc37⟩ := hR
  replace H : Hp w0 _ [⟨q, 33, (Pk.cells P37 s37)⟩, ⟨rs, 33, zeroPk⟩, ⟨hb, 52, #[(.int .i64 k), (.int .u8 ((fl : Int))), (.int .i64 hh), (.int .i64 hr)]⟩, ⟨t, 127, #[(.int .i64 v), (.pointer (some ⟨r, 0, none⟩)), (.bool S37.b)]⟩] := H
  replace hZ := hZ.stepq hZ9 hN_hZ_q; clear hZ9
  clear htb ht0
  clear hqb hq0
  refine wpList_nil (hK3 _ _ ?_)
  refine wp_seq_k (fun K38 hK38 => gx_region ?_)
  refine hz_do F rfl (ex_load rfl (F.e rfl) (gl_agg ((Pk.cells P37 s37)) rfl (ga_33 _) (gs_33 _) (fun i => H.cs 0 rfl i))) ?_; intro A F
  obtain ⟨W9, hr, hB, hk⟩ := gx_storeAgg (P := Tryz.prog) (S := 33) (c := (Pk.cells P37 s37)) _ (H.b.at_ (j := 1) rfl).1 (gs_33 _) rfl (pk_one _ _)
  replace hZ := hZ.st (H.b.at_ (j := 1) rfl).1 (show 33 ≠ 5 by decide) (show 33 ≠ 163 by decide) (.inl hN_hZ_rs) hk
  replace hPw37 := hPw37.propK hk (uOne (H.b.at_ (j := 1) rfl).1 (nuPk (zk 0) ts))
  replace hPp37 := hPp37.propK hk (uOne (H.b.at_ (j := 1) rfl).1 (nuPk (zk 0) ts))
  refine hz_st (ex_store rfl (F.e rfl) (F.e rfl) hr) ?_; clear hr; replace H : Hp _ _ [_, _, _, _] := Hp.turn [_] H hk hB; clear hk hB
  refine wpList_nil (hK38 _ _ ?_)
  refine gx_ret ?_
  refine (show bodyPost _ Tryz.f81 RR Exit.ret _ _ from ?_)
  exact bodyPost_ret (fn := Tryz.f81) (gx_resc rfl (F.g 4 _ rfl) (gl_agg ((Pk.cells P37 s37)) rfl (ga_33 _) (gs_33 _) (fun i => H.cs 1 rfl i))) F.d ((by have hK9 := fk4 (v := v) (k := k) (f := fl) (s := S) (by have := of_decide_eq_true hb33; omega); subst hP37 hS37 hS35; exact ⟨_, (_, _, s37), rfl, ⟨rfl, (congrArg Prod.snd hK9).symm, (congrArg Prod.fst hK9).symm, hZ, (H.b.at_ (j := 3) rfl).1, ⟨hPw37, rowFi hnf37, rowBy hnc37, hPp37⟩, fun _ => ⟨by rw [hnc37]; rfl, hsc37.2⟩, (fun b9 off9 => ⟨fun _ h9 => absurd hnf37 h9, fun _ h9 => absurd hnc37 h9⟩)⟩⟩))
 refine gx_region ?_
 refine zb (rn_eql) ?_; intro A F
 refine zd ?_; intro A F
 refine wpList_nil (hK17 _ _ ?_)
 refine zc (fun hb39 => ?_) (fun hb39 => ?_)
 ·skip
  refine wp_seq_k (fun K40 hK40 => gx_region ?_)
  refine zd ?_; intro A F
  refine hz_do F rfl (ex_nil rfl (F.e rfl)) ?_; intro A F
  iterate 2 (refine zd ?_; intro A F)
  refine hz_callX (fun (x : Ts) => [⟨q, 33, (Pk.cells ((zk k)) ts)⟩, ⟨rs, 33, zeroPk⟩, ⟨hb, 52, #[(.int .i64 k), (.int .u8 ((fl : Int))), (.int .i64 hh), (.int .i64 hr)]⟩, ⟨t, 127, #[(.int .i64 v), (.pointer (some ⟨r, 0, none⟩)), (.bool x.b)]⟩]) (RdP _ r (.int .u16 ((S.num 2 : Int))) (S.rd 2)) F rfl (ex_call rfl rfl (gx_l1 (F.e rfl) gx_l0) fn_126) (kTwo hZ) (fun S41 _ _ h => Hp.re H (h.2.2.k) (fun i9 (e9 : i9 = r) => by rw [e9]; exact hr0) ⟨⟨rfl, fun hb => hb.kept (h.2.2.k) (nT1 hZ.r.blk (show 33 ≠ 163 by decide) hb)⟩, ⟨⟨rfl, fun hb => hb.kept (h.2.2.k) (nT1 hZ.r.blk (show 33 ≠ 163 by decide) hb)⟩, ⟨⟨rfl, fun hb => hb.kept (h.2.2.k) (nT1 hZ.r.blk (show 52 ≠ 163 by decide) hb)⟩, ⟨⟨rfl, fun hb => by rw [show S41 = _ from h.2.1]; exact hb.kept (h.2.2.k) (nT1 hZ.r.blk (show 127 ≠ 163 by decide) hb)⟩, trivial⟩⟩⟩⟩) ?_; clear F H A; intro S41 vv W A hR H F; obtain ⟨rfl, hS41, hZ9⟩ := hR
  replace H : Hp w0 _ [⟨q, 33, (Pk.cells ((zk k)) ts)⟩, ⟨rs, 33, zeroPk⟩, ⟨hb, 52, #[(.int .i64 k), (.int .u8 ((fl : Int))), (.int .i64 hh), (.int .i64 hr)]⟩, ⟨t, 127, #[(.int .i64 v), (.pointer (some ⟨r, 0, none⟩)), (.bool S41.b)]⟩] := H
  replace hZ := hZ.step hZ9 tt1; clear hZ9
  refine zd ?_; intro A F
  let P42 : Pk := { (zk k) with id := S.num 2 }
  refine zs [] ((Pk.cells P42 ts)) ?_; intro W H9 hk
  replace hZ := hZ.st (H.b.at_ (j := 0) rfl).1 (show 33 ≠ 5 by decide) (show 33 ≠ 163 by decide) (.inl hN_hZ_q) hk
  clear H hk; have H := H9; clear H9
  refine wpList_nil (hK40 _ _ ?_)
  refine gx_region ?_
  refine zd ?_; intro A F
  obtain ⟨htb, ht0⟩ := H.b.at_ (j := 3) rfl
  obtain ⟨hqb, hq0⟩ := H.b.at_ (j := 0) rfl
  refine hz_callX (fun (x : Ts × Pk × Sl) => [⟨q, 33, (Pk.cells x.2.1 x.2.2)⟩, ⟨rs, 33, zeroPk⟩, ⟨hb, 52, #[(.int .i64 k), (.int .u8 ((fl : Int))), (.int .i64 hh), (.int .i64 hr)]⟩, ⟨t, 127, #[(.int .i64 v), (.pointer (some ⟨r, 0, none⟩)), (.bool x.1.b)]⟩]) (fun x => KcP _ v t q r (shortK v P42 S41) x.1 x.2.1 x.2.2) F rfl (ex_call rfl rfl (gx_l1 (F.e rfl) (gx_l1 (F.e rfl) gx_l0)) fn_127) (short_any9 w0 _ t q r v S41 P42 ts ⟨H.k, hqb, hq0, (by intro y hy; simp at hy; subst hy; exact htq), htb, ht0, by simp, trivial⟩ hr0 hZ.r hZ.n ⟨rfl, rowW rfl, rfl, rfl, ⟨rfl, rfl⟩⟩ hT) (fun x9 _ _ h => Hp.re H (h.z.k) (fun i9 e9 => by rcases e9 with e9 | e9 | e9 <;> (rw [e9]; first | exact hr0 | exact ht0 | exact hq0)) ⟨⟨rfl, fun _ => h.qb⟩, ⟨⟨rfl, fun hb => hb.kept (h.z.k) (nT4 hZ.r.blk (show 33 ≠ 163 by decide) htb (show 33 ≠ 127 by decide) hne_rs hb)⟩, ⟨⟨rfl, fun hb => hb.kept (h.z.k) (nT3 hZ.r.blk (show 52 ≠ 163 by decide) htb (show 52 ≠ 127 by decide) hqb (show 52 ≠ 33 by decide) hb)⟩, ⟨⟨rfl, fun _ => h.tb⟩, trivial⟩⟩⟩⟩) ?_; clear F H A; intro x9 vv W A hR H F; obtain ⟨S43, P43, s43⟩ := x9; replace hR : KcP _ v t q r (shortK v P42 S41) S43 P43 s43 vv W := hR; obtain ⟨rfl, hS43, hP43, hZ9, -, -, hPw43, hPp43, hnf43, hnc43, hsc43⟩ := hR
  replace H : Hp w0 _ [⟨q, 33, (Pk.cells P43 s43)⟩, ⟨rs, 33, zeroPk⟩, ⟨hb, 52, #[(.int .i64 k), (.int .u8 ((fl : Int))), (.int .i64 hh), (.int .i64 hr)]⟩, ⟨t, 127, #[(.int .i64 v), (.pointer (some ⟨r, 0, none⟩)), (.bool S43.b)]⟩] := H
  replace hZ := hZ.stepq hZ9 hN_hZ_q; clear hZ9
  clear htb ht0
  clear hqb hq0
  refine wpList_nil (hK3 _ _ ?_)
  refine wp_seq_k (fun K44 hK44 => gx_region ?_)
  refine hz_do F rfl (ex_load rfl (F.e rfl) (gl_agg ((Pk.cells P43 s43)) rfl (ga_33 _) (gs_33 _) (fun i => H.cs 0 rfl i))) ?_; intro A F
  obtain ⟨W9, hr, hB, hk⟩ := gx_storeAgg (P := Tryz.prog) (S := 33) (c := (Pk.cells P43 s43)) _ (H.b.at_ (j := 1) rfl).1 (gs_33 _) rfl (pk_one _ _)
  replace hZ := hZ.st (H.b.at_ (j := 1) rfl).1 (show 33 ≠ 5 by decide) (show 33 ≠ 163 by decide) (.inl hN_hZ_rs) hk
  replace hPw43 := hPw43.propK hk (uOne (H.b.at_ (j := 1) rfl).1 (nuPk (zk 0) ts))
  replace hPp43 := hPp43.propK hk (uOne (H.b.at_ (j := 1) rfl).1 (nuPk (zk 0) ts))
  refine hz_st (ex_store rfl (F.e rfl) (F.e rfl) hr) ?_; clear hr; replace H : Hp _ _ [_, _, _, _] := Hp.turn [_] H hk hB; clear hk hB
  refine wpList_nil (hK44 _ _ ?_)
  refine gx_ret ?_
  refine (show bodyPost _ Tryz.f81 RR Exit.ret _ _ from ?_)
  exact bodyPost_ret (fn := Tryz.f81) (gx_resc rfl (F.g 4 _ rfl) (gl_agg ((Pk.cells P43 s43)) rfl (ga_33 _) (gs_33 _) (fun i => H.cs 1 rfl i))) F.d ((by have hK9 := fk4 (v := v) (k := k) (f := fl) (s := S) (by have := of_decide_eq_true hb39; omega); subst hP43 hS43 hS41; exact ⟨_, (_, _, s43), rfl, ⟨rfl, (congrArg Prod.snd hK9).symm, (congrArg Prod.fst hK9).symm, hZ, (H.b.at_ (j := 3) rfl).1, ⟨hPw43, rowFi hnf43, rowBy hnc43, hPp43⟩, fun _ => ⟨by rw [hnc43]; rfl, hsc43.2⟩, (fun b9 off9 => ⟨fun _ h9 => absurd hnf43 h9, fun _ h9 => absurd hnc43 h9⟩)⟩⟩))
 refine wp_seq_k (fun K45 hK45 => ?_)
 refine wp_seq_k (fun K46 hK46 => gx_region ?_)
 refine zb (rn_eql) ?_; intro A F
 refine zd ?_; intro A F
 refine wpList_nil (hK46 _ _ ?_)
 refine zc (fun hb47 => ?_) (fun hb47 => ?_)
 ·skip
  refine wp_skip (hK45 _ _ ?_)
  refine wp_cond_true ((F.e rfl).trans (congrArg Value.bool hb47)) ?_
  refine wp_seq_k (fun K48 hK48 => gx_region ?_)
  refine zd ?_; intro A F
  refine hz_do F rfl (ex_nil rfl (F.e rfl)) ?_; intro A F
  iterate 2 (refine zd ?_; intro A F)
  refine hz_callX (fun (x : Ts) => [⟨q, 33, (Pk.cells ((zk k)) ts)⟩, ⟨rs, 33, zeroPk⟩, ⟨hb, 52, #[(.int .i64 k), (.int .u8 ((fl : Int))), (.int .i64 hh), (.int .i64 hr)]⟩, ⟨t, 127, #[(.int .i64 v), (.pointer (some ⟨r, 0, none⟩)), (.bool x.b)]⟩]) (RdP _ r (.int .u16 ((S.num 2 : Int))) (S.rd 2)) F rfl (ex_call rfl rfl (gx_l1 (F.e rfl) gx_l0) fn_126) (kTwo hZ) (fun S49 _ _ h => Hp.re H (h.2.2.k) (fun i9 (e9 : i9 = r) => by rw [e9]; exact hr0) ⟨⟨rfl, fun hb => hb.kept (h.2.2.k) (nT1 hZ.r.blk (show 33 ≠ 163 by decide) hb)⟩, ⟨⟨rfl, fun hb => hb.kept (h.2.2.k) (nT1 hZ.r.blk (show 33 ≠ 163 by decide) hb)⟩, ⟨⟨rfl, fun hb => hb.kept (h.2.2.k) (nT1 hZ.r.blk (show 52 ≠ 163 by decide) hb)⟩, ⟨⟨rfl, fun hb => by rw [show S49 = _ from h.2.1]; exact hb.kept (h.2.2.k) (nT1 hZ.r.blk (show 127 ≠ 163 by decide) hb)⟩, trivial⟩⟩⟩⟩) ?_; clear F H A; intro S49 vv W A hR H F; obtain ⟨rfl, hS49, hZ9⟩ := hR
  replace H : Hp w0 _ [⟨q, 33, (Pk.cells ((zk k)) ts)⟩, ⟨rs, 33, zeroPk⟩, ⟨hb, 52, #[(.int .i64 k), (.int .u8 ((fl : Int))), (.int .i64 hh), (.int .i64 hr)]⟩, ⟨t, 127, #[(.int .i64 v), (.pointer (some ⟨r, 0, none⟩)), (.bool S49.b)]⟩] := H
  replace hZ := hZ.step hZ9 tt1; clear hZ9
  refine zd ?_; intro A F
  let P50 : Pk := { (zk k) with id := S.num 2 }
  refine zs [] ((Pk.cells P50 ts)) ?_; intro W H9 hk
  replace hZ := hZ.st (H.b.at_ (j := 0) rfl).1 (show 33 ≠ 5 by decide) (show 33 ≠ 163 by decide) (.inl hN_hZ_q) hk
  clear H hk; have H := H9; clear H9
  refine wpList_nil (hK48 _ _ ?_)
  refine wp_seq_k (fun K51 hK51 => gx_region ?_)
  refine zd ?_; intro A F
  obtain ⟨htb, ht0⟩ := H.b.at_ (j := 3) rfl
  refine hz_callX (fun (x : Ts × Option Addr × Nat) => [⟨q, 33, (Pk.cells P50 ts)⟩, ⟨rs, 33, zeroPk⟩, ⟨hb, 52, #[(.int .i64 k), (.int .u8 ((fl : Int))), (.int .i64 hh), (.int .i64 hr)]⟩, ⟨t, 127, #[(.int .i64 v), (.pointer (some ⟨r, 0, none⟩)), (.bool x.1.b)]⟩]) (fun x => ScP _ v t r (S49.sec v) (S49.rdS v) x.1 x.2.1 x.2.2) F rfl (ex_call rfl rfl (gx_l1 (F.e rfl) gx_l0) fn_128) (tsec_any w0 _ t r v S49 ⟨H.k, htb, ht0, by simp, trivial⟩ hr0 hZ.r hZ.n hT) (fun x9 _ _ h => Hp.re H (h.z.k) (fun i9 e9 => by rcases e9 with e9 | e9 <;> (rw [e9]; first | exact hr0 | exact ht0)) ⟨⟨rfl, fun hb => hb.kept (h.z.k) (nT2 hZ.r.blk (show 33 ≠ 163 by decide) htb (show 33 ≠ 127 by decide) hb)⟩, ⟨⟨rfl, fun hb => hb.kept (h.z.k) (nT2 hZ.r.blk (show 33 ≠ 163 by decide) htb (show 33 ≠ 127 by decide) hb)⟩, ⟨⟨rfl, fun hb => hb.kept (h.z.k) (nT2 hZ.r.blk (show 52 ≠ 163 by decide) htb (show 52 ≠ 127 by decide) hb)⟩, ⟨⟨rfl, fun _ => h.tb⟩, trivial⟩⟩⟩⟩) ?_; clear F H A; intro x9 vv W A hR H F; obtain ⟨S52, a52, c52⟩ := x9; replace hR : ScP _ v t r (S49.sec v) (S49.rdS v) S52 a52 c52 vv W := hR; obtain ⟨rfl, hS52, hZ9, -, hP52⟩ := hR
  replace H : Hp w0 _ [⟨q, 33, (Pk.cells P50 ts)⟩, ⟨rs, 33, zeroPk⟩, ⟨hb, 52, #[(.int .i64 k), (.int .u8 ((fl : Int))), (.int .i64 hh), (.int .i64 hr)]⟩, ⟨t, 127, #[(.int .i64 v), (.pointer (some ⟨r, 0, none⟩)), (.bool S52.b)]⟩] := H
  replace hZ := hZ.step hZ9 tt2; clear hZ9
  clear htb ht0
  refine zd ?_; intro A F
  let s53 : Sl := { ts with pa := a52, pc := c52 }
  let P54 : Pk := { P50 with props := (S49.sec v) }
  refine zs [] ((Pk.cells P54 s53)) ?_; intro W H9 hk
  replace hZ := hZ.st (H.b.at_ (j := 0) rfl).1 (show 33 ≠ 5 by decide) (show 33 ≠ 163 by decide) (.inl hN_hZ_q) hk
  replace hP52 := hP52.propK hk (uOne (H.b.at_ (j := 0) rfl).1 (nuPk _ _))
  clear H hk; have H := H9; clear H9
  refine wpList_nil (hK51 _ _ ?_)
  refine gx_region ?_
  iterate 3 (refine zd ?_; intro A F)
  have hs9 := H.size; have hs8 := hZ.k.size
  obtain ⟨htb, ht0⟩ := H.b.at_ (j := 3) rfl
  refine hz_callX (fun (x : Ts × Option Addr × Nat) => [⟨q, 33, (Pk.cells P54 s53)⟩, ⟨rs, 33, zeroPk⟩, ⟨hb, 52, #[(.int .i64 k), (.int .u8 ((fl : Int))), (.int .i64 hh), (.int .i64 hr)]⟩, ⟨t, 127, #[(.int .i64 v), (.pointer (some ⟨r, 0, none⟩)), (.bool x.1.b)]⟩]) (fun x => FcP _ v t r (filtK k S52.l.length S52).1 (filtK k S52.l.length S52).2 x.1 x.2.1 x.2.2) F rfl (ex_call rfl rfl (gx_l1 (F.e rfl) (gx_l1 (F.e rfl) gx_l0)) fn_129) (filters_any9 w0 _ t r v S52 ⟨H.k, htb, ht0, by simp, trivial⟩ hr0 hZ.r hZ.n k hT) (fun x9 _ _ h => Hp.re H (h.z.k) (fun i9 e9 => by rcases e9 with e9 | e9 <;> (rw [e9]; first | exact hr0 | exact ht0)) ⟨⟨rfl, fun hb => hb.kept (h.z.k) (nT2 hZ.r.blk (show 33 ≠ 163 by decide) htb (show 33 ≠ 127 by decide) hb)⟩, ⟨⟨rfl, fun hb => hb.kept (h.z.k) (nT2 hZ.r.blk (show 33 ≠ 163 by decide) htb (show 33 ≠ 127 by decide) hb)⟩, ⟨⟨rfl, fun hb => hb.kept (h.z.k) (nT2 hZ.r.blk (show 52 ≠ 163 by decide) htb (show 52 ≠ 127 by decide) hb)⟩, ⟨⟨rfl, fun _ => h.tb⟩, trivial⟩⟩⟩⟩) ?_; clear F H A; intro x9 vv W A hR H F; obtain ⟨S55, af, cf⟩ := x9; replace hR : FcP _ v t r (filtK k S52.l.length S52).1 (filtK k S52.l.length S52).2 S55 af cf vv W := hR; obtain ⟨rfl, hS55, hZ9, -, hOf⟩ := hR
  replace H : Hp w0 _ [⟨q, 33, (Pk.cells P54 s53)⟩, ⟨rs, 33, zeroPk⟩, ⟨hb, 52, #[(.int .i64 k), (.int .u8 ((fl : Int))), (.int .i64 hh), (.int .i64 hr)]⟩, ⟨t, 127, #[(.int .i64 v), (.pointer (some ⟨r, 0, none⟩)), (.bool S55.b)]⟩] := H
  replace hP52 := hP52.propK hZ9.k (uO2 hZ.r htb (nu3 (by simp) (by simp) (by simp)))
  replace hZ := hZ.step hZ9 tt2; clear hZ9
  clear htb ht0
  have hOl := own_lo hOf hs8; clear hs8
  replace hOf := og_base hOf hs9; clear hs9
  refine zd ?_; intro A F
  let s56 : Sl := { s53 with fa := af, fc := cf }
  let P57 : Pk := { P54 with filters := (filtK k S52.l.length S52).1 }
  refine zs [] ((Pk.cells P57 s56)) ?_; intro W H9 hk
  replace hOf := og_far hOf (H.b.at_ (j := 0) rfl).1 (show 33 ≠ 88 by decide) hk
  replace hZ := hZ.st (H.b.at_ (j := 0) rfl).1 (show 33 ≠ 5 by decide) (show 33 ≠ 163 by decide) (.inl hN_hZ_q) hk
  replace hP52 := hP52.propK hk (uOne (H.b.at_ (j := 0) rfl).1 (nuPk _ _))
  clear H hk; have H := H9; clear H9
  refine wpList_nil (hK3 _ _ ?_)
  refine wp_seq_k (fun K58 hK58 => gx_region ?_)
  refine hz_do F rfl (ex_load rfl (F.e rfl) (gl_agg ((Pk.cells P57 s56)) rfl (ga_33 _) (gs_33 _) (fun i => H.cs 0 rfl i))) ?_; intro A F
  obtain ⟨W9, hr, hB, hk⟩ := gx_storeAgg (P := Tryz.prog) (S := 33) (c := (Pk.cells P57 s56)) _ (H.b.at_ (j := 1) rfl).1 (gs_33 _) rfl (pk_one _ _)
  replace hOf := og_far hOf (H.b.at_ (j := 1) rfl).1 (show 33 ≠ 88 by decide) hk
  replace hZ := hZ.st (H.b.at_ (j := 1) rfl).1 (show 33 ≠ 5 by decide) (show 33 ≠ 163 by decide) (.inl hN_hZ_rs) hk
  replace hP52 := hP52.propK hk (uOne (H.b.at_ (j := 1) rfl).1 (nuPk (zk 0) ts))
  refine hz_st (ex_store rfl (F.e rfl) (F.e rfl) hr) ?_; clear hr; replace H : Hp _ _ [_, _, _, _] := Hp.turn [_] H hk hB; clear hk hB
  refine wpList_nil (hK58 _ _ ?_)
  refine gx_ret ?_
  refine (show bodyPost _ Tryz.f81 RR Exit.ret _ _ from ?_)
  exact bodyPost_ret (fn := Tryz.f81) (gx_resc rfl (F.g 4 _ rfl) (gl_agg ((Pk.cells P57 s56)) rfl (ga_33 _) (gs_33 _) (fun i => H.cs 1 rfl i))) F.d ((by have hK9 := fk8 (v := v) (k := k) (f := fl) (s := S) (by have := of_decide_eq_true hb47; omega); subst hS55 hS52 hS49; exact ⟨_, (_, _, s56), rfl, ⟨rfl, (congrArg Prod.snd hK9).symm, (congrArg Prod.fst hK9).symm, hZ, (H.b.at_ (j := 3) rfl).1, ⟨rowW rfl, (own_row hOf).1, rowBy rfl, hP52⟩, fun _ => ⟨rfl, rfl⟩, (fun b9 off9 => ⟨fun e9 _ => hOl b9 off9 e9, fun _ h9 => absurd rfl h9⟩)⟩⟩))
 refine gx_region ?_
 refine zb (rn_eql) ?_; intro A F
 refine zd ?_; intro A F
 refine wpList_nil (hK45 _ _ ?_)
 refine zc (fun hb59 => ?_) (fun hb59 => ?_)
 ·skip
  refine wp_seq_k (fun K60 hK60 => gx_region ?_)
  refine zd ?_; intro A F
  refine hz_do F rfl (ex_nil rfl (F.e rfl)) ?_; intro A F
  iterate 2 (refine zd ?_; intro A F)
  refine hz_callX (fun (x : Ts) => [⟨q, 33, (Pk.cells ((zk k)) ts)⟩, ⟨rs, 33, zeroPk⟩, ⟨hb, 52, #[(.int .i64 k), (.int .u8 ((fl : Int))), (.int .i64 hh), (.int .i64 hr)]⟩, ⟨t, 127, #[(.int .i64 v), (.pointer (some ⟨r, 0, none⟩)), (.bool x.b)]⟩]) (RdP _ r (.int .u16 ((S.num 2 : Int))) (S.rd 2)) F rfl (ex_call rfl rfl (gx_l1 (F.e rfl) gx_l0) fn_126) (kTwo hZ) (fun S61 _ _ h => Hp.re H (h.2.2.k) (fun i9 (e9 : i9 = r) => by rw [e9]; exact hr0) ⟨⟨rfl, fun hb => hb.kept (h.2.2.k) (nT1 hZ.r.blk (show 33 ≠ 163 by decide) hb)⟩, ⟨⟨rfl, fun hb => hb.kept (h.2.2.k) (nT1 hZ.r.blk (show 33 ≠ 163 by decide) hb)⟩, ⟨⟨rfl, fun hb => hb.kept (h.2.2.k) (nT1 hZ.r.blk (show 52 ≠ 163 by decide) hb)⟩, ⟨⟨rfl, fun hb => by rw [show S61 = _ from h.2.1]; exact hb.kept (h.2.2.k) (nT1 hZ.r.blk (show 127 ≠ 163 by decide) hb)⟩, trivial⟩⟩⟩⟩) ?_; clear F H A; intro S61 vv W A hR H F; obtain ⟨rfl, hS61, hZ9⟩ := hR
  replace H : Hp w0 _ [⟨q, 33, (Pk.cells ((zk k)) ts)⟩, ⟨rs, 33, zeroPk⟩, ⟨hb, 52, #[(.int .i64 k), (.int .u8 ((fl : Int))), (.int .i64 hh), (.int .i64 hr)]⟩, ⟨t, 127, #[(.int .i64 v), (.pointer (some ⟨r, 0, none⟩)), (.bool S61.b)]⟩] := H
  replace hZ := hZ.step hZ9 tt1; clear hZ9
  refine zd ?_; intro A F
  let P62 : Pk := { (zk k) with id := S.num 2 }
  refine zs [] ((Pk.cells P62 ts)) ?_; intro W H9 hk
  replace hZ := hZ.st (H.b.at_ (j := 0) rfl).1 (show 33 ≠ 5 by decide) (show 33 ≠ 163 by decide) (.inl hN_hZ_q) hk
  clear H hk; have H := H9; clear H9
  refine wpList_nil (hK60 _ _ ?_)
  refine wp_seq_k (fun K63 hK63 => gx_region ?_)
  refine zd ?_; intro A F
  obtain ⟨htb, ht0⟩ := H.b.at_ (j := 3) rfl
  refine hz_callX (fun (x : Ts × Option Addr × Nat) => [⟨q, 33, (Pk.cells P62 ts)⟩, ⟨rs, 33, zeroPk⟩, ⟨hb, 52, #[(.int .i64 k), (.int .u8 ((fl : Int))), (.int .i64 hh), (.int .i64 hr)]⟩, ⟨t, 127, #[(.int .i64 v), (.pointer (some ⟨r, 0, none⟩)), (.bool x.1.b)]⟩]) (fun x => ScP _ v t r (S61.sec v) (S61.rdS v) x.1 x.2.1 x.2.2) F rfl (ex_call rfl rfl (gx_l1 (F.e rfl) gx_l0) fn_128) (tsec_any w0 _ t r v S61 ⟨H.k, htb, ht0, by simp, trivial⟩ hr0 hZ.r hZ.n hT) (fun x9 _ _ h => Hp.re H (h.z.k) (fun i9 e9 => by rcases e9 with e9 | e9 <;> (rw [e9]; first | exact hr0 | exact ht0)) ⟨⟨rfl, fun hb => hb.kept (h.z.k) (nT2 hZ.r.blk (show 33 ≠ 163 by decide) htb (show 33 ≠ 127 by decide) hb)⟩, ⟨⟨rfl, fun hb => hb.kept (h.z.k) (nT2 hZ.r.blk (show 33 ≠ 163 by decide) htb (show 33 ≠ 127 by decide) hb)⟩, ⟨⟨rfl, fun hb => hb.kept (h.z.k) (nT2 hZ.r.blk (show 52 ≠ 163 by decide) htb (show 52 ≠ 127 by decide) hb)⟩, ⟨⟨rfl, fun _ => h.tb⟩, trivial⟩⟩⟩⟩) ?_; clear F H A; intro x9 vv W A hR H F; obtain ⟨S64, a64, c64⟩ := x9; replace hR : ScP _ v t r (S61.sec v) (S61.rdS v) S64 a64 c64 vv W := hR; obtain ⟨rfl, hS64, hZ9, -, hP64⟩ := hR
  replace H : Hp w0 _ [⟨q, 33, (Pk.cells P62 ts)⟩, ⟨rs, 33, zeroPk⟩, ⟨hb, 52, #[(.int .i64 k), (.int .u8 ((fl : Int))), (.int .i64 hh), (.int .i64 hr)]⟩, ⟨t, 127, #[(.int .i64 v), (.pointer (some ⟨r, 0, none⟩)), (.bool S64.b)]⟩] := H
  replace hZ := hZ.step hZ9 tt2; clear hZ9
  clear htb ht0
  refine zd ?_; intro A F
  let s65 : Sl := { ts with pa := a64, pc := c64 }
  let P66 : Pk := { P62 with props := (S61.sec v) }
  refine zs [] ((Pk.cells P66 s65)) ?_; intro W H9 hk
  replace hZ := hZ.st (H.b.at_ (j := 0) rfl).1 (show 33 ≠ 5 by decide) (show 33 ≠ 163 by decide) (.inl hN_hZ_q) hk
  replace hP64 := hP64.propK hk (uOne (H.b.at_ (j := 0) rfl).1 (nuPk _ _))
  clear H hk; have H := H9; clear H9
  refine wpList_nil (hK63 _ _ ?_)
  refine gx_region ?_
  iterate 3 (refine zd ?_; intro A F)
  have hs9 := H.size; have hs8 := hZ.k.size
  obtain ⟨htb, ht0⟩ := H.b.at_ (j := 3) rfl
  refine hz_callX (fun (x : Ts × Option Addr × Nat) => [⟨q, 33, (Pk.cells P66 s65)⟩, ⟨rs, 33, zeroPk⟩, ⟨hb, 52, #[(.int .i64 k), (.int .u8 ((fl : Int))), (.int .i64 hh), (.int .i64 hr)]⟩, ⟨t, 127, #[(.int .i64 v), (.pointer (some ⟨r, 0, none⟩)), (.bool x.1.b)]⟩]) (fun x => FcP _ v t r (filtK k S64.l.length S64).1 (filtK k S64.l.length S64).2 x.1 x.2.1 x.2.2) F rfl (ex_call rfl rfl (gx_l1 (F.e rfl) (gx_l1 (F.e rfl) gx_l0)) fn_129) (filters_any9 w0 _ t r v S64 ⟨H.k, htb, ht0, by simp, trivial⟩ hr0 hZ.r hZ.n k hT) (fun x9 _ _ h => Hp.re H (h.z.k) (fun i9 e9 => by rcases e9 with e9 | e9 <;> (rw [e9]; first | exact hr0 | exact ht0)) ⟨⟨rfl, fun hb => hb.kept (h.z.k) (nT2 hZ.r.blk (show 33 ≠ 163 by decide) htb (show 33 ≠ 127 by decide) hb)⟩, ⟨⟨rfl, fun hb => hb.kept (h.z.k) (nT2 hZ.r.blk (show 33 ≠ 163 by decide) htb (show 33 ≠ 127 by decide) hb)⟩, ⟨⟨rfl, fun hb => hb.kept (h.z.k) (nT2 hZ.r.blk (show 52 ≠ 163 by decide) htb (show 52 ≠ 127 by decide) hb)⟩, ⟨⟨rfl, fun _ => h.tb⟩, trivial⟩⟩⟩⟩) ?_; clear F H A; intro x9 vv W A hR H F; obtain ⟨S67, af, cf⟩ := x9; replace hR : FcP _ v t r (filtK k S64.l.length S64).1 (filtK k S64.l.length S64).2 S67 af cf vv W := hR; obtain ⟨rfl, hS67, hZ9, -, hOf⟩ := hR
  replace H : Hp w0 _ [⟨q, 33, (Pk.cells P66 s65)⟩, ⟨rs, 33, zeroPk⟩, ⟨hb, 52, #[(.int .i64 k), (.int .u8 ((fl : Int))), (.int .i64 hh), (.int .i64 hr)]⟩, ⟨t, 127, #[(.int .i64 v), (.pointer (some ⟨r, 0, none⟩)), (.bool S67.b)]⟩] := H
  replace hP64 := hP64.propK hZ9.k (uO2 hZ.r htb (nu3 (by simp) (by simp) (by simp)))
  replace hZ := hZ.step hZ9 tt2; clear hZ9
  clear htb ht0
  have hOl := own_lo hOf hs8; clear hs8
  replace hOf := og_base hOf hs9; clear hs9
  refine zd ?_; intro A F
  let s68 : Sl := { s65 with fa := af, fc := cf }
  let P69 : Pk := { P66 with filters := (filtK k S64.l.length S64).1 }
  refine zs [] ((Pk.cells P69 s68)) ?_; intro W H9 hk
  replace hOf := og_far hOf (H.b.at_ (j := 0) rfl).1 (show 33 ≠ 88 by decide) hk
  replace hZ := hZ.st (H.b.at_ (j := 0) rfl).1 (show 33 ≠ 5 by decide) (show 33 ≠ 163 by decide) (.inl hN_hZ_q) hk
  replace hP64 := hP64.propK hk (uOne (H.b.at_ (j := 0) rfl).1 (nuPk _ _))
  clear H hk; have H := H9; clear H9
  refine wpList_nil (hK3 _ _ ?_)
  refine wp_seq_k (fun K70 hK70 => gx_region ?_)
  refine hz_do F rfl (ex_load rfl (F.e rfl) (gl_agg ((Pk.cells P69 s68)) rfl (ga_33 _) (gs_33 _) (fun i => H.cs 0 rfl i))) ?_; intro A F
  obtain ⟨W9, hr, hB, hk⟩ := gx_storeAgg (P := Tryz.prog) (S := 33) (c := (Pk.cells P69 s68)) _ (H.b.at_ (j := 1) rfl).1 (gs_33 _) rfl (pk_one _ _)
  replace hOf := og_far hOf (H.b.at_ (j := 1) rfl).1 (show 33 ≠ 88 by decide) hk
  replace hZ := hZ.st (H.b.at_ (j := 1) rfl).1 (show 33 ≠ 5 by decide) (show 33 ≠ 163 by decide) (.inl hN_hZ_rs) hk
  replace hP64 := hP64.propK hk (uOne (H.b.at_ (j := 1) rfl).1 (nuPk (zk 0) ts))
  refine hz_st (ex_store rfl (F.e rfl) (F.e rfl) hr) ?_; clear hr; replace H : Hp _ _ [_, _, _, _] := Hp.turn [_] H hk hB; clear hk hB
  refine wpList_nil (hK70 _ _ ?_)
  refine gx_ret ?_
  refine (show bodyPost _ Tryz.f81 RR Exit.ret _ _ from ?_)
  exact bodyPost_ret (fn := Tryz.f81) (gx_resc rfl (F.g 4 _ rfl) (gl_agg ((Pk.cells P69 s68)) rfl (ga_33 _) (gs_33 _) (fun i => H.cs 1 rfl i))) F.d ((by have hK9 := fk8 (v := v) (k := k) (f := fl) (s := S) (by have := of_decide_eq_true hb59; omega); subst hS67 hS64 hS61; exact ⟨_, (_, _, s68), rfl, ⟨rfl, (congrArg Prod.snd hK9).symm, (congrArg Prod.fst hK9).symm, hZ, (H.b.at_ (j := 3) rfl).1, ⟨rowW rfl, (own_row hOf).1, rowBy rfl, hP64⟩, fun _ => ⟨rfl, rfl⟩, (fun b9 off9 => ⟨fun e9 _ => hOl b9 off9 e9, fun _ h9 => absurd rfl h9⟩)⟩⟩))
 refine wp_seq_k (fun K71 hK71 => ?_)
 refine wp_seq_k (fun K72 hK72 => gx_region ?_)
 refine zb (rn_eql) ?_; intro A F
 refine zd ?_; intro A F
 refine wpList_nil (hK72 _ _ ?_)
 refine zc (fun hb73 => ?_) (fun hb73 => ?_)
 ·skip
  refine wp_skip (hK71 _ _ ?_)
  refine wp_cond_true ((F.e rfl).trans (congrArg Value.bool hb73)) ?_
  refine wp_seq_k (fun K74 hK74 => gx_region ?_)
  refine zd ?_; intro A F
  refine hz_do F rfl (ex_nil rfl (F.e rfl)) ?_; intro A F
  iterate 2 (refine zd ?_; intro A F)
  refine hz_callX (fun (x : Ts) => [⟨q, 33, (Pk.cells ((zk k)) ts)⟩, ⟨rs, 33, zeroPk⟩, ⟨hb, 52, #[(.int .i64 k), (.int .u8 ((fl : Int))), (.int .i64 hh), (.int .i64 hr)]⟩, ⟨t, 127, #[(.int .i64 v), (.pointer (some ⟨r, 0, none⟩)), (.bool x.b)]⟩]) (RdP _ r (.int .u16 ((S.num 2 : Int))) (S.rd 2)) F rfl (ex_call rfl rfl (gx_l1 (F.e rfl) gx_l0) fn_126) (kTwo hZ) (fun S75 _ _ h => Hp.re H (h.2.2.k) (fun i9 (e9 : i9 = r) => by rw [e9]; exact hr0) ⟨⟨rfl, fun hb => hb.kept (h.2.2.k) (nT1 hZ.r.blk (show 33 ≠ 163 by decide) hb)⟩, ⟨⟨rfl, fun hb => hb.kept (h.2.2.k) (nT1 hZ.r.blk (show 33 ≠ 163 by decide) hb)⟩, ⟨⟨rfl, fun hb => hb.kept (h.2.2.k) (nT1 hZ.r.blk (show 52 ≠ 163 by decide) hb)⟩, ⟨⟨rfl, fun hb => by rw [show S75 = _ from h.2.1]; exact hb.kept (h.2.2.k) (nT1 hZ.r.blk (show 127 ≠ 163 by decide) hb)⟩, trivial⟩⟩⟩⟩) ?_; clear F H A; intro S75 vv W A hR H F; obtain ⟨rfl, hS75, hZ9⟩ := hR
  replace H : Hp w0 _ [⟨q, 33, (Pk.cells ((zk k)) ts)⟩, ⟨rs, 33, zeroPk⟩, ⟨hb, 52, #[(.int .i64 k), (.int .u8 ((fl : Int))), (.int .i64 hh), (.int .i64 hr)]⟩, ⟨t, 127, #[(.int .i64 v), (.pointer (some ⟨r, 0, none⟩)), (.bool S75.b)]⟩] := H
  replace hZ := hZ.step hZ9 tt1; clear hZ9
  refine zd ?_; intro A F
  let P76 : Pk := { (zk k) with id := S.num 2 }
  refine zs [] ((Pk.cells P76 ts)) ?_; intro W H9 hk
  replace hZ := hZ.st (H.b.at_ (j := 0) rfl).1 (show 33 ≠ 5 by decide) (show 33 ≠ 163 by decide) (.inl hN_hZ_q) hk
  clear H hk; have H := H9; clear H9
  refine wpList_nil (hK74 _ _ ?_)
  refine wp_seq_k (fun K77 hK77 => gx_region ?_)
  refine zd ?_; intro A F
  obtain ⟨htb, ht0⟩ := H.b.at_ (j := 3) rfl
  refine hz_callX (fun (x : Ts × Option Addr × Nat) => [⟨q, 33, (Pk.cells P76 ts)⟩, ⟨rs, 33, zeroPk⟩, ⟨hb, 52, #[(.int .i64 k), (.int .u8 ((fl : Int))), (.int .i64 hh), (.int .i64 hr)]⟩, ⟨t, 127, #[(.int .i64 v), (.pointer (some ⟨r, 0, none⟩)), (.bool x.1.b)]⟩]) (fun x => ScP _ v t r (S75.sec v) (S75.rdS v) x.1 x.2.1 x.2.2) F rfl (ex_call rfl rfl (gx_l1 (F.e rfl) gx_l0) fn_128) (tsec_any w0 _ t r v S75 ⟨H.k, htb, ht0, by simp, trivial⟩ hr0 hZ.r hZ.n hT) (fun x9 _ _ h => Hp.re H (h.z.k) (fun i9 e9 => by rcases e9 with e9 | e9 <;> (rw [e9]; first | exact hr0 | exact ht0)) ⟨⟨rfl, fun hb => hb.kept (h.z.k) (nT2 hZ.r.blk (show 33 ≠ 163 by decide) htb (show 33 ≠ 127 by decide) hb)⟩, ⟨⟨rfl, fun hb => hb.kept (h.z.k) (nT2 hZ.r.blk (show 33 ≠ 163 by decide) htb (show 33 ≠ 127 by decide) hb)⟩, ⟨⟨rfl, fun hb => hb.kept (h.z.k) (nT2 hZ.r.blk (show 52 ≠ 163 by decide) htb (show 52 ≠ 127 by decide) hb)⟩, ⟨⟨rfl, fun _ => h.tb⟩, trivial⟩⟩⟩⟩) ?_; clear F H A; intro x9 vv W A hR H F; obtain ⟨S78, a78, c78⟩ := x9; replace hR : ScP _ v t r (S75.sec v) (S75.rdS v) S78 a78 c78 vv W := hR; obtain ⟨rfl, hS78, hZ9, -, hP78⟩ := hR
  replace H : Hp w0 _ [⟨q, 33, (Pk.cells P76 ts)⟩, ⟨rs, 33, zeroPk⟩, ⟨hb, 52, #[(.int .i64 k), (.int .u8 ((fl : Int))), (.int .i64 hh), (.int .i64 hr)]⟩, ⟨t, 127, #[(.int .i64 v), (.pointer (some ⟨r, 0, none⟩)), (.bool S78.b)]⟩] := H
  replace hZ := hZ.step hZ9 tt2; clear hZ9
  clear htb ht0
  refine zd ?_; intro A F
  let s79 : Sl := { ts with pa := a78, pc := c78 }
  let P80 : Pk := { P76 with props := (S75.sec v) }
  refine zs [] ((Pk.cells P80 s79)) ?_; intro W H9 hk
  replace hZ := hZ.st (H.b.at_ (j := 0) rfl).1 (show 33 ≠ 5 by decide) (show 33 ≠ 163 by decide) (.inl hN_hZ_q) hk
  replace hP78 := hP78.propK hk (uOne (H.b.at_ (j := 0) rfl).1 (nuPk _ _))
  clear H hk; have H := H9; clear H9
  refine wpList_nil (hK77 _ _ ?_)
  refine gx_region ?_
  refine zd ?_; intro A F
  refine hz_do F rfl (ex_nil rfl (F.e rfl)) ?_; intro A F
  iterate 2 (refine zd ?_; intro A F)
  refine hz_callX (fun (x : Ts) => [⟨q, 33, (Pk.cells P80 s79)⟩, ⟨rs, 33, zeroPk⟩, ⟨hb, 52, #[(.int .i64 k), (.int .u8 ((fl : Int))), (.int .i64 hh), (.int .i64 hr)]⟩, ⟨t, 127, #[(.int .i64 v), (.pointer (some ⟨r, 0, none⟩)), (.bool x.b)]⟩]) (RdP _ r (.string S78.rest) S78.rdR) F rfl (ex_call rfl rfl (gx_l1 (F.e rfl) gx_l0) fn_130) (kRest hZ) (fun S81 _ _ h => Hp.re H (h.2.2.k) (fun i9 (e9 : i9 = r) => by rw [e9]; exact hr0) ⟨⟨rfl, fun hb => hb.kept (h.2.2.k) (nT1 hZ.r.blk (show 33 ≠ 163 by decide) hb)⟩, ⟨⟨rfl, fun hb => hb.kept (h.2.2.k) (nT1 hZ.r.blk (show 33 ≠ 163 by decide) hb)⟩, ⟨⟨rfl, fun hb => hb.kept (h.2.2.k) (nT1 hZ.r.blk (show 52 ≠ 163 by decide) hb)⟩, ⟨⟨rfl, fun hb => by rw [show S81 = _ from h.2.1]; exact hb.kept (h.2.2.k) (nT1 hZ.r.blk (show 127 ≠ 163 by decide) hb)⟩, trivial⟩⟩⟩⟩) ?_; clear F H A; intro S81 vv W A hR H F; obtain ⟨rfl, hS81, hZ9⟩ := hR
  replace H : Hp w0 _ [⟨q, 33, (Pk.cells P80 s79)⟩, ⟨rs, 33, zeroPk⟩, ⟨hb, 52, #[(.int .i64 k), (.int .u8 ((fl : Int))), (.int .i64 hh), (.int .i64 hr)]⟩, ⟨t, 127, #[(.int .i64 v), (.pointer (some ⟨r, 0, none⟩)), (.bool S81.b)]⟩] := H
  replace hP78 := hP78.propK hZ9.k (uO1 hZ.r)
  replace hZ := hZ.step hZ9 tt1; clear hZ9
  obtain ⟨bC, cC, W9, hcv, hC, hkC, hgC⟩ := cv_bytes W S78.l
  have hC_q : q < bC := Nat.lt_of_lt_of_le (H.b.at_ (j := 0) rfl).1.lt hgC
  have hC_rs : rs < bC := Nat.lt_of_lt_of_le (H.b.at_ (j := 1) rfl).1.lt hgC
  refine hz_do (v := .slice (some ⟨bC, 0, none⟩) (S78.l).length cC) F rfl (ex_conv rfl (F.e rfl) hcv) ?_; intro A F
  have hCl := Nat.le_trans hZ.k.size hgC
  replace H := H.kept hkC
  replace hZ := hZ.no hkC
  replace hP78 := hP78.keptNo hkC
  clear hcv hkC hgC; generalize W9 = W at *
  refine zd ?_; intro A F
  let s83 : Sl := { s79 with ca := (some ⟨bC, 0, none⟩), cc := cC }
  let P84 : Pk := { P80 with codes := S78.l }
  refine zs [] ((Pk.cells P84 s83)) ?_; intro W H9 hk
  replace hZ := hZ.st (H.b.at_ (j := 0) rfl).1 (show 33 ≠ 5 by decide) (show 33 ≠ 163 by decide) (.inl hN_hZ_q) hk
  replace hP78 := hP78.propK hk (uOne (H.b.at_ (j := 0) rfl).1 (nuPk _ _))
  replace hC := hC.kept hk (fun b9 o9 e9 _ h9 => by injection e9 with e9; injection e9 with e1; have h9 : b9 = q := h9; omega)
  clear H hk; have H := H9; clear H9
  refine wpList_nil (hK3 _ _ ?_)
  refine wp_seq_k (fun K85 hK85 => gx_region ?_)
  refine hz_do F rfl (ex_load rfl (F.e rfl) (gl_agg ((Pk.cells P84 s83)) rfl (ga_33 _) (gs_33 _) (fun i => H.cs 0 rfl i))) ?_; intro A F
  obtain ⟨W9, hr, hB, hk⟩ := gx_storeAgg (P := Tryz.prog) (S := 33) (c := (Pk.cells P84 s83)) _ (H.b.at_ (j := 1) rfl).1 (gs_33 _) rfl (pk_one _ _)
  replace hZ := hZ.st (H.b.at_ (j := 1) rfl).1 (show 33 ≠ 5 by decide) (show 33 ≠ 163 by decide) (.inl hN_hZ_rs) hk
  replace hP78 := hP78.propK hk (uOne (H.b.at_ (j := 1) rfl).1 (nuPk (zk 0) ts))
  replace hC := hC.kept hk (fun b9 o9 e9 _ h9 => by injection e9 with e9; injection e9 with e1; have h9 : b9 = rs := h9; omega)
  refine hz_st (ex_store rfl (F.e rfl) (F.e rfl) hr) ?_; clear hr; replace H : Hp _ _ [_, _, _, _] := Hp.turn [_] H hk hB; clear hk hB
  refine wpList_nil (hK85 _ _ ?_)
  refine gx_ret ?_
  refine (show bodyPost _ Tryz.f81 RR Exit.ret _ _ from ?_)
  exact bodyPost_ret (fn := Tryz.f81) (gx_resc rfl (F.g 4 _ rfl) (gl_agg ((Pk.cells P84 s83)) rfl (ga_33 _) (gs_33 _) (fun i => H.cs 1 rfl i))) F.d ((by have hK9 := fk9 (v := v) (k := k) (f := fl) (s := S) (by have := of_decide_eq_true hb73; omega); subst hS81 hS78 hS75; exact ⟨_, (_, _, s83), rfl, ⟨rfl, (congrArg Prod.snd hK9).symm, (congrArg Prod.fst hK9).symm, hZ, (H.b.at_ (j := 3) rfl).1, ⟨rowW rfl, rowFi rfl, hC, hP78⟩, (fun h9 => by cases h9), (fun b9 off9 => ⟨fun _ h9 => absurd rfl h9, fun e9 _ => by injection e9 with e9; injection e9 with e1; rw [← e1]; exact hCl⟩)⟩⟩))
 refine gx_region ?_
 refine zb (rn_eql) ?_; intro A F
 refine zd ?_; intro A F
 refine wpList_nil (hK71 _ _ ?_)
 refine zc (fun hb86 => ?_) (fun hb86 => ?_)
 ·skip
  replace F := ((((F.nil.cons (F.g 10 _ rfl)).cons (F.g 5 _ rfl)).cons (F.g 4 _ rfl)).cons (F.g 0 _ rfl))
  refine wp_seq_k (fun K87 hK87 => gx_region ?_)
  refine zd ?_; intro A F
  refine hz_do F rfl (ex_nil rfl (F.e rfl)) ?_; intro A F
  iterate 2 (refine zd ?_; intro A F)
  refine hz_callX (fun (x : Ts) => [⟨q, 33, (Pk.cells ((zk k)) ts)⟩, ⟨rs, 33, zeroPk⟩, ⟨hb, 52, #[(.int .i64 k), (.int .u8 ((fl : Int))), (.int .i64 hh), (.int .i64 hr)]⟩, ⟨t, 127, #[(.int .i64 v), (.pointer (some ⟨r, 0, none⟩)), (.bool x.b)]⟩]) (RdP _ r (.int .u16 ((S.num 2 : Int))) (S.rd 2)) F rfl (ex_call rfl rfl (gx_l1 (F.e rfl) gx_l0) fn_126) (kTwo hZ) (fun S88 _ _ h => Hp.re H (h.2.2.k) (fun i9 (e9 : i9 = r) => by rw [e9]; exact hr0) ⟨⟨rfl, fun hb => hb.kept (h.2.2.k) (nT1 hZ.r.blk (show 33 ≠ 163 by decide) hb)⟩, ⟨⟨rfl, fun hb => hb.kept (h.2.2.k) (nT1 hZ.r.blk (show 33 ≠ 163 by decide) hb)⟩, ⟨⟨rfl, fun hb => hb.kept (h.2.2.k) (nT1 hZ.r.blk (show 52 ≠ 163 by decide) hb)⟩, ⟨⟨rfl, fun hb => by rw [show S88 = _ from h.2.1]; exact hb.kept (h.2.2.k) (nT1 hZ.r.blk (show 127 ≠ 163 by decide) hb)⟩, trivial⟩⟩⟩⟩) ?_; clear F H A; intro S88 vv W A hR H F; obtain ⟨rfl, hS88, hZ9⟩ := hR
  replace H : Hp w0 _ [⟨q, 33, (Pk.cells ((zk k)) ts)⟩, ⟨rs, 33, zeroPk⟩, ⟨hb, 52, #[(.int .i64 k), (.int .u8 ((fl : Int))), (.int .i64 hh), (.int .i64 hr)]⟩, ⟨t, 127, #[(.int .i64 v), (.pointer (some ⟨r, 0, none⟩)), (.bool S88.b)]⟩] := H
  replace hZ := hZ.step hZ9 tt1; clear hZ9
  refine zd ?_; intro A F
  let P89 : Pk := { (zk k) with id := S.num 2 }
  refine zs [] ((Pk.cells P89 ts)) ?_; intro W H9 hk
  replace hZ := hZ.st (H.b.at_ (j := 0) rfl).1 (show 33 ≠ 5 by decide) (show 33 ≠ 163 by decide) (.inl hN_hZ_q) hk
  clear H hk; have H := H9; clear H9
  refine wpList_nil (hK87 _ _ ?_)
  refine wp_seq_k (fun K90 hK90 => gx_region ?_)
  refine zd ?_; intro A F
  obtain ⟨htb, ht0⟩ := H.b.at_ (j := 3) rfl
  refine hz_callX (fun (x : Ts × Option Addr × Nat) => [⟨q, 33, (Pk.cells P89 ts)⟩, ⟨rs, 33, zeroPk⟩, ⟨hb, 52, #[(.int .i64 k), (.int .u8 ((fl : Int))), (.int .i64 hh), (.int .i64 hr)]⟩, ⟨t, 127, #[(.int .i64 v), (.pointer (some ⟨r, 0, none⟩)), (.bool x.1.b)]⟩]) (fun x => ScP _ v t r (S88.sec v) (S88.rdS v) x.1 x.2.1 x.2.2) F rfl (ex_call rfl rfl (gx_l1 (F.e rfl) gx_l0) fn_128) (tsec_any w0 _ t r v S88 ⟨H.k, htb, ht0, by simp, trivial⟩ hr0 hZ.r hZ.n hT) (fun x9 _ _ h => Hp.re H (h.z.k) (fun i9 e9 => by rcases e9 with e9 | e9 <;> (rw [e9]; first | exact hr0 | exact ht0)) ⟨⟨rfl, fun hb => hb.kept (h.z.k) (nT2 hZ.r.blk (show 33 ≠ 163 by decide) htb (show 33 ≠ 127 by decide) hb)⟩, ⟨⟨rfl, fun hb => hb.kept (h.z.k) (nT2 hZ.r.blk (show 33 ≠ 163 by decide) htb (show 33 ≠ 127 by decide) hb)⟩, ⟨⟨rfl, fun hb => hb.kept (h.z.k) (nT2 hZ.r.blk (show 52 ≠ 163 by decide) htb (show 52 ≠ 127 by decide) hb)⟩, ⟨⟨rfl, fun _ => h.tb⟩, trivial⟩⟩⟩⟩) ?_; clear F H A; intro x9 vv W A hR H F; obtain ⟨S91, a91, c91⟩ := x9; replace hR : ScP _ v t r (S88.sec v) (S88.rdS v) S91 a91 c91 vv W := hR; obtain ⟨rfl, hS91, hZ9, -, hP91⟩ := hR
  replace H : Hp w0 _ [⟨q, 33, (Pk.cells P89 ts)⟩, ⟨rs, 33, zeroPk⟩, ⟨hb, 52, #[(.int .i64 k), (.int .u8 ((fl : Int))), (.int .i64 hh), (.int .i64 hr)]⟩, ⟨t, 127, #[(.int .i64 v), (.pointer (some ⟨r, 0, none⟩)), (.bool S91.b)]⟩] := H
  replace hZ := hZ.step hZ9 tt2; clear hZ9
  clear htb ht0
  refine zd ?_; intro A F
  let s92 : Sl := { ts with pa := a91, pc := c91 }
  let P93 : Pk := { P89 with props := (S88.sec v) }
  refine zs [] ((Pk.cells P93 s92)) ?_; intro W H9 hk
  replace hZ := hZ.st (H.b.at_ (j := 0) rfl).1 (show 33 ≠ 5 by decide) (show 33 ≠ 163 by decide) (.inl hN_hZ_q) hk
  replace hP91 := hP91.propK hk (uOne (H.b.at_ (j := 0) rfl).1 (nuPk _ _))
  clear H hk; have H := H9; clear H9
  refine wpList_nil (hK90 _ _ ?_)
  refine gx_region ?_
  refine zd ?_; intro A F
  refine hz_do F rfl (ex_nil rfl (F.e rfl)) ?_; intro A F
  iterate 2 (refine zd ?_; intro A F)
  refine hz_callX (fun (x : Ts) => [⟨q, 33, (Pk.cells P93 s92)⟩, ⟨rs, 33, zeroPk⟩, ⟨hb, 52, #[(.int .i64 k), (.int .u8 ((fl : Int))), (.int .i64 hh), (.int .i64 hr)]⟩, ⟨t, 127, #[(.int .i64 v), (.pointer (some ⟨r, 0, none⟩)), (.bool x.b)]⟩]) (RdP _ r (.string S91.rest) S91.rdR) F rfl (ex_call rfl rfl (gx_l1 (F.e rfl) gx_l0) fn_130) (kRest hZ) (fun S94 _ _ h => Hp.re H (h.2.2.k) (fun i9 (e9 : i9 = r) => by rw [e9]; exact hr0) ⟨⟨rfl, fun hb => hb.kept (h.2.2.k) (nT1 hZ.r.blk (show 33 ≠ 163 by decide) hb)⟩, ⟨⟨rfl, fun hb => hb.kept (h.2.2.k) (nT1 hZ.r.blk (show 33 ≠ 163 by decide) hb)⟩, ⟨⟨rfl, fun hb => hb.kept (h.2.2.k) (nT1 hZ.r.blk (show 52 ≠ 163 by decide) hb)⟩, ⟨⟨rfl, fun hb => by rw [show S94 = _ from h.2.1]; exact hb.kept (h.2.2.k) (nT1 hZ.r.blk (show 127 ≠ 163 by decide) hb)⟩, trivial⟩⟩⟩⟩) ?_; clear F H A; intro S94 vv W A hR H F; obtain ⟨rfl, hS94, hZ9⟩ := hR
  replace H : Hp w0 _ [⟨q, 33, (Pk.cells P93 s92)⟩, ⟨rs, 33, zeroPk⟩, ⟨hb, 52, #[(.int .i64 k), (.int .u8 ((fl : Int))), (.int .i64 hh), (.int .i64 hr)]⟩, ⟨t, 127, #[(.int .i64 v), (.pointer (some ⟨r, 0, none⟩)), (.bool S94.b)]⟩] := H
  replace hP91 := hP91.propK hZ9.k (uO1 hZ.r)
  replace hZ := hZ.step hZ9 tt1; clear hZ9
  obtain ⟨bC, cC, W9, hcv, hC, hkC, hgC⟩ := cv_bytes W S91.l
  have hC_q : q < bC := Nat.lt_of_lt_of_le (H.b.at_ (j := 0) rfl).1.lt hgC
  have hC_rs : rs < bC := Nat.lt_of_lt_of_le (H.b.at_ (j := 1) rfl).1.lt hgC
  refine hz_do (v := .slice (some ⟨bC, 0, none⟩) (S91.l).length cC) F rfl (ex_conv rfl (F.e rfl) hcv) ?_; intro A F
  have hCl := Nat.le_trans hZ.k.size hgC
  replace H := H.kept hkC
  replace hZ := hZ.no hkC
  replace hP91 := hP91.keptNo hkC
  clear hcv hkC hgC; generalize W9 = W at *
  refine zd ?_; intro A F
  let s96 : Sl := { s92 with ca := (some ⟨bC, 0, none⟩), cc := cC }
  let P97 : Pk := { P93 with codes := S91.l }
  refine zs [] ((Pk.cells P97 s96)) ?_; intro W H9 hk
  replace hZ := hZ.st (H.b.at_ (j := 0) rfl).1 (show 33 ≠ 5 by decide) (show 33 ≠ 163 by decide) (.inl hN_hZ_q) hk
  replace hP91 := hP91.propK hk (uOne (H.b.at_ (j := 0) rfl).1 (nuPk _ _))
  replace hC := hC.kept hk (fun b9 o9 e9 _ h9 => by injection e9 with e9; injection e9 with e1; have h9 : b9 = q := h9; omega)
  clear H hk; have H := H9; clear H9
  refine wpList_nil (hK3 _ _ ?_)
  refine wp_seq_k (fun K98 hK98 => gx_region ?_)
  refine hz_do F rfl (ex_load rfl (F.e rfl) (gl_agg ((Pk.cells P97 s96)) rfl (ga_33 _) (gs_33 _) (fun i => H.cs 0 rfl i))) ?_; intro A F
  obtain ⟨W9, hr, hB, hk⟩ := gx_storeAgg (P := Tryz.prog) (S := 33) (c := (Pk.cells P97 s96)) _ (H.b.at_ (j := 1) rfl).1 (gs_33 _) rfl (pk_one _ _)
  replace hZ := hZ.st (H.b.at_ (j := 1) rfl).1 (show 33 ≠ 5 by decide) (show 33 ≠ 163 by decide) (.inl hN_hZ_rs) hk
  replace hP91 := hP91.propK hk (uOne (H.b.at_ (j := 1) rfl).1 (nuPk (zk 0) ts))
  replace hC := hC.kept hk (fun b9 o9 e9 _ h9 => by injection e9 with e9; injection e9 with e1; have h9 : b9 = rs := h9; omega)
  refine hz_st (ex_store rfl (F.e rfl) (F.e rfl) hr) ?_; clear hr; replace H : Hp _ _ [_, _, _, _] := Hp.turn [_] H hk hB; clear hk hB
  refine wpList_nil (hK98 _ _ ?_)
  refine gx_ret ?_
  refine (show bodyPost _ Tryz.f81 RR Exit.ret _ _ from ?_)
  exact bodyPost_ret (fn := Tryz.f81) (gx_resc rfl (F.g 4 _ rfl) (gl_agg ((Pk.cells P97 s96)) rfl (ga_33 _) (gs_33 _) (fun i => H.cs 1 rfl i))) F.d ((by have hK9 := fk9 (v := v) (k := k) (f := fl) (s := S) (by have := of_decide_eq_true hb86; omega); subst hS94 hS91 hS88; exact ⟨_, (_, _, s96), rfl, ⟨rfl, (congrArg Prod.snd hK9).symm, (congrArg Prod.fst hK9).symm, hZ, (H.b.at_ (j := 3) rfl).1, ⟨rowW rfl, rowFi rfl, hC, hP91⟩, (fun h9 => by cases h9), (fun b9 off9 => ⟨fun _ h9 => absurd rfl h9, fun e9 _ => by injection e9 with e9; injection e9 with e1; rw [← e1]; exact hCl⟩)⟩⟩))
 replace F := ((((F.nil.cons (F.g 10 _ rfl)).cons (F.g 5 _ rfl)).cons (F.g 4 _ rfl)).cons (F.g 0 _ rfl))
 refine wp_seq_k (fun K99 hK99 => ?_)
 refine wp_seq_k (fun K100 hK100 => gx_region ?_)
 refine zb (rn_eql) ?_; intro A F
 refine zd ?_; intro A F
 refine wpList_nil (hK100 _ _ ?_)
 refine zc (fun hb101 => ?_) (fun hb101 => ?_)
 ·skip
  refine wp_skip (hK99 _ _ ?_)
  refine wp_cond_true ((F.e rfl).trans (congrArg Value.bool hb101)) ?_
  refine gx_region ?_
  refine zd ?_; intro A F
  obtain ⟨htb, ht0⟩ := H.b.at_ (j := 3) rfl
  obtain ⟨hqb, hq0⟩ := H.b.at_ (j := 0) rfl
  refine hz_callX (fun (x : Ts × Pk × Sl) => [⟨q, 33, (Pk.cells x.2.1 x.2.2)⟩, ⟨rs, 33, zeroPk⟩, ⟨hb, 52, #[(.int .i64 k), (.int .u8 ((fl : Int))), (.int .i64 hh), (.int .i64 hr)]⟩, ⟨t, 127, #[(.int .i64 v), (.pointer (some ⟨r, 0, none⟩)), (.bool x.1.b)]⟩]) (fun x => KcP _ v t q r (shortK v ((zk k)) S) x.1 x.2.1 x.2.2) F rfl (ex_call rfl rfl (gx_l1 (F.e rfl) (gx_l1 (F.e rfl) gx_l0)) fn_127) (short_any9 w0 _ t q r v S ((zk k)) ts ⟨H.k, hqb, hq0, (by intro y hy; simp at hy; subst hy; exact htq), htb, ht0, by simp, trivial⟩ hr0 hZ.r hZ.n ⟨rfl, rowW rfl, rfl, rfl, ⟨rfl, rfl⟩⟩ hT) (fun x9 _ _ h => Hp.re H (h.z.k) (fun i9 e9 => by rcases e9 with e9 | e9 | e9 <;> (rw [e9]; first | exact hr0 | exact ht0 | exact hq0)) ⟨⟨rfl, fun _ => h.qb⟩, ⟨⟨rfl, fun hb => hb.kept (h.z.k) (nT4 hZ.r.blk (show 33 ≠ 163 by decide) htb (show 33 ≠ 127 by decide) hne_rs hb)⟩, ⟨⟨rfl, fun hb => hb.kept (h.z.k) (nT3 hZ.r.blk (show 52 ≠ 163 by decide) htb (show 52 ≠ 127 by decide) hqb (show 52 ≠ 33 by decide) hb)⟩, ⟨⟨rfl, fun _ => h.tb⟩, trivial⟩⟩⟩⟩) ?_; clear F H A; intro x9 vv W A hR H F; obtain ⟨S102, P102, s102⟩ := x9; replace hR : KcP _ v t q r (shortK v ((zk k)) S) S102 P102 s102 vv W := hR; obtain ⟨rfl, hS102, hP102, hZ9, -, -, hPw102, hPp102, hnf102, hnc102, hsc102⟩ := hR
  replace H : Hp w0 _ [⟨q, 33, (Pk.cells P102 s102)⟩, ⟨rs, 33, zeroPk⟩, ⟨hb, 52, #[(.int .i64 k), (.int .u8 ((fl : Int))), (.int .i64 hh), (.int .i64 hr)]⟩, ⟨t, 127, #[(.int .i64 v), (.pointer (some ⟨r, 0, none⟩)), (.bool S102.b)]⟩] := H
  replace hZ := hZ.stepq hZ9 hN_hZ_q; clear hZ9
  clear htb ht0
  clear hqb hq0
  refine wpList_nil (hK3 _ _ ?_)
  refine wp_seq_k (fun K103 hK103 => gx_region ?_)
  refine hz_do F rfl (ex_load rfl (F.e rfl) (gl_agg ((Pk.cells P102 s102)) rfl (ga_33 _) (gs_33 _) (fun i => H.cs 0 rfl i))) ?_; intro A F
  obtain ⟨W9, hr, hB, hk⟩ := gx_storeAgg (P := Tryz.prog) (S := 33) (c := (Pk.cells P102 s102)) _ (H.b.at_ (j := 1) rfl).1 (gs_33 _) rfl (pk_one _ _)
  replace hZ := hZ.st (H.b.at_ (j := 1) rfl).1 (show 33 ≠ 5 by decide) (show 33 ≠ 163 by decide) (.inl hN_hZ_rs) hk
  replace hPw102 := hPw102.propK hk (uOne (H.b.at_ (j := 1) rfl).1 (nuPk (zk 0) ts))
  replace hPp102 := hPp102.propK hk (uOne (H.b.at_ (j := 1) rfl).1 (nuPk (zk 0) ts))
  refine hz_st (ex_store rfl (F.e rfl) (F.e rfl) hr) ?_; clear hr; replace H : Hp _ _ [_, _, _, _] := Hp.turn [_] H hk hB; clear hk hB
  refine wpList_nil (hK103 _ _ ?_)
  refine gx_ret ?_
  refine (show bodyPost _ Tryz.f81 RR Exit.ret _ _ from ?_)
  exact bodyPost_ret (fn := Tryz.f81) (gx_resc rfl (F.g 4 _ rfl) (gl_agg ((Pk.cells P102 s102)) rfl (ga_33 _) (gs_33 _) (fun i => H.cs 1 rfl i))) F.d ((by have hK9 := fk14 (v := v) (k := k) (f := fl) (s := S) (by have := of_decide_eq_true hb101; omega); subst hP102 hS102; exact ⟨_, (_, _, s102), rfl, ⟨rfl, (congrArg Prod.snd hK9).symm, (congrArg Prod.fst hK9).symm, hZ, (H.b.at_ (j := 3) rfl).1, ⟨hPw102, rowFi hnf102, rowBy hnc102, hPp102⟩, fun _ => ⟨by rw [hnc102]; rfl, hsc102.2⟩, (fun b9 off9 => ⟨fun _ h9 => absurd hnf102 h9, fun _ h9 => absurd hnc102 h9⟩)⟩⟩))
 refine gx_region ?_
 refine zb (rn_eql) ?_; intro A F
 refine zd ?_; intro A F
 refine wpList_nil (hK99 _ _ ?_)
 refine zc (fun hb104 => ?_) (fun hb104 => ?_)
 ·skip
  refine gx_region ?_
  refine zd ?_; intro A F
  obtain ⟨htb, ht0⟩ := H.b.at_ (j := 3) rfl
  obtain ⟨hqb, hq0⟩ := H.b.at_ (j := 0) rfl
  refine hz_callX (fun (x : Ts × Pk × Sl) => [⟨q, 33, (Pk.cells x.2.1 x.2.2)⟩, ⟨rs, 33, zeroPk⟩, ⟨hb, 52, #[(.int .i64 k), (.int .u8 ((fl : Int))), (.int .i64 hh), (.int .i64 hr)]⟩, ⟨t, 127, #[(.int .i64 v), (.pointer (some ⟨r, 0, none⟩)), (.bool x.1.b)]⟩]) (fun x => KcP _ v t q r (shortK v ((zk k)) S) x.1 x.2.1 x.2.2) F rfl (ex_call rfl rfl (gx_l1 (F.e rfl) (gx_l1 (F.e rfl) gx_l0)) fn_127) (short_any9 w0 _ t q r v S ((zk k)) ts ⟨H.k, hqb, hq0, (by intro y hy; simp at hy; subst hy; exact htq), htb, ht0, by simp, trivial⟩ hr0 hZ.r hZ.n ⟨rfl, rowW rfl, rfl, rfl, ⟨rfl, rfl⟩⟩ hT) (fun x9 _ _ h => Hp.re H (h.z.k) (fun i9 e9 => by rcases e9 with e9 | e9 | e9 <;> (rw [e9]; first | exact hr0 | exact ht0 | exact hq0)) ⟨⟨rfl, fun _ => h.qb⟩, ⟨⟨rfl, fun hb => hb.kept (h.z.k) (nT4 hZ.r.blk (show 33 ≠ 163 by decide) htb (show 33 ≠ 127 by decide) hne_rs hb)⟩, ⟨⟨rfl, fun hb => hb.kept (h.z.k) (nT3 hZ.r.blk (show 52 ≠ 163 by decide) htb (show 52 ≠ 127 by decide) hqb (show 52 ≠ 33 by decide) hb)⟩, ⟨⟨rfl, fun _ => h.tb⟩, trivial⟩⟩⟩⟩) ?_; clear F H A; intro x9 vv W A hR H F; obtain ⟨S105, P105, s105⟩ := x9; replace hR : KcP _ v t q r (shortK v ((zk k)) S) S105 P105 s105 vv W := hR; obtain ⟨rfl, hS105, hP105, hZ9, -, -, hPw105, hPp105, hnf105, hnc105, hsc105⟩ := hR
  replace H : Hp w0 _ [⟨q, 33, (Pk.cells P105 s105)⟩, ⟨rs, 33, zeroPk⟩, ⟨hb, 52, #[(.int .i64 k), (.int .u8 ((fl : Int))), (.int .i64 hh), (.int .i64 hr)]⟩, ⟨t, 127, #[(.int .i64 v), (.pointer (some ⟨r, 0, none⟩)), (.bool S105.b)]⟩] := H
  replace hZ := hZ.stepq hZ9 hN_hZ_q; clear hZ9
  clear htb ht0
  clear hqb hq0
  refine wpList_nil (hK3 _ _ ?_)
  refine wp_seq_k (fun K106 hK106 => gx_region ?_)
  refine hz_do F rfl (ex_load rfl (F.e rfl) (gl_agg ((Pk.cells P105 s105)) rfl (ga_33 _) (gs_33 _) (fun i => H.cs 0 rfl i))) ?_; intro A F
  obtain ⟨W9, hr, hB, hk⟩ := gx_storeAgg (P := Tryz.prog) (S := 33) (c := (Pk.cells P105 s105)) _ (H.b.at_ (j := 1) rfl).1 (gs_33 _) rfl (pk_one _ _)
  replace hZ := hZ.st (H.b.at_ (j := 1) rfl).1 (show 33 ≠ 5 by decide) (show 33 ≠ 163 by decide) (.inl hN_hZ_rs) hk
  replace hPw105 := hPw105.propK hk (uOne (H.b.at_ (j := 1) rfl).1 (nuPk (zk 0) ts))
  replace hPp105 := hPp105.propK hk (uOne (H.b.at_ (j := 1) rfl).1 (nuPk (zk 0) ts))
  refine hz_st (ex_store rfl (F.e rfl) (F.e rfl) hr) ?_; clear hr; replace H : Hp _ _ [_, _, _, _] := Hp.turn [_] H hk hB; clear hk hB
  refine wpList_nil (hK106 _ _ ?_)
  refine gx_ret ?_
  refine (show bodyPost _ Tryz.f81 RR Exit.ret _ _ from ?_)
  exact bodyPost_ret (fn := Tryz.f81) (gx_resc rfl (F.g 4 _ rfl) (gl_agg ((Pk.cells P105 s105)) rfl (ga_33 _) (gs_33 _) (fun i => H.cs 1 rfl i))) F.d ((by have hK9 := fk14 (v := v) (k := k) (f := fl) (s := S) (by have := of_decide_eq_true hb104; omega); subst hP105 hS105; exact ⟨_, (_, _, s105), rfl, ⟨rfl, (congrArg Prod.snd hK9).symm, (congrArg Prod.fst hK9).symm, hZ, (H.b.at_ (j := 3) rfl).1, ⟨hPw105, rowFi hnf105, rowBy hnc105, hPp105⟩, fun _ => ⟨by rw [hnc105]; rfl, hsc105.2⟩, (fun b9 off9 => ⟨fun _ h9 => absurd hnf105 h9, fun _ h9 => absurd hnc105 h9⟩)⟩⟩))
 refine wp_skip (hK3 _ _ ?_)
 refine wp_seq_k (fun K107 hK107 => gx_region ?_)
 refine hz_do F rfl (ex_load rfl (F.e rfl) (gl_agg ((Pk.cells ((zk k)) ts)) rfl (ga_33 _) (gs_33 _) (fun i => H.cs 0 rfl i))) ?_; intro A F
 obtain ⟨W9, hr, hB, hk⟩ := gx_storeAgg (P := Tryz.prog) (S := 33) (c := (Pk.cells ((zk k)) ts)) _ (H.b.at_ (j := 1) rfl).1 (gs_33 _) rfl (pk_one _ _)
 replace hZ := hZ.st (H.b.at_ (j := 1) rfl).1 (show 33 ≠ 5 by decide) (show 33 ≠ 163 by decide) (.inl hN_hZ_rs) hk
 refine hz_st (ex_store rfl (F.e rfl) (F.e rfl) hr) ?_; clear hr; replace H : Hp _ _ [_, _, _, _] := Hp.turn [_] H hk hB; clear hk hB
 refine wpList_nil (hK107 _ _ ?_)
 refine gx_ret ?_
 refine (show bodyPost _ Tryz.f81 RR Exit.ret _ _ from ?_)
 exact bodyPost_ret (fn := Tryz.f81) (gx_resc rfl (F.g 4 _ rfl) (gl_agg ((Pk.cells ((zk k)) ts)) rfl (ga_33 _) (gs_33 _) (fun i => H.cs 1 rfl i))) F.d ((by have hK9 := fk0 (v := v) (k := k) (f := fl) (s := S) (by have := of_decide_eq_false hb6; have := of_decide_eq_false hb10; have := of_decide_eq_false hb14; have := of_decide_eq_false hb19; have := of_decide_eq_false hb26; have := of_decide_eq_false hb33; have := of_decide_eq_false hb39; have := of_decide_eq_false hb47; have := of_decide_eq_false hb59; have := of_decide_eq_false hb73; have := of_decide_eq_false hb86; have := of_decide_eq_false hb101; have := of_decide_eq_false hb104; omega) (by have := of_decide_eq_false hb6; have := of_decide_eq_false hb10; have := of_decide_eq_false hb14; have := of_decide_eq_false hb19; have := of_decide_eq_false hb26; have := of_decide_eq_false hb33; have := of_decide_eq_false hb39; have := of_decide_eq_false hb47; have := of_decide_eq_false hb59; have := of_decide_eq_false hb73; have := of_decide_eq_false hb86; have := of_decide_eq_false hb101; have := of_decide_eq_false hb104; omega) (by have := of_decide_eq_false hb6; have := of_decide_eq_false hb10; have := of_decide_eq_false hb14; have := of_decide_eq_false hb19; have := of_decide_eq_false hb26; have := of_decide_eq_false hb33; have := of_decide_eq_false hb39; have := of_decide_eq_false hb47; have := of_decide_eq_false hb59; have := of_decide_eq_false hb73; have := of_decide_eq_false hb86; have := of_decide_eq_false hb101; have := of_decide_eq_false hb104; omega) (by have := of_decide_eq_false hb6; have := of_decide_eq_false hb10; have := of_decide_eq_false hb14; have := of_decide_eq_false hb19; have := of_decide_eq_false hb26; have := of_decide_eq_false hb33; have := of_decide_eq_false hb39; have := of_decide_eq_false hb47; have := of_decide_eq_false hb59; have := of_decide_eq_false hb73; have := of_decide_eq_false hb86; have := of_decide_eq_false hb101; have := of_decide_eq_false hb104; omega) (by have := of_decide_eq_false hb6; have := of_decide_eq_false hb10; have := of_decide_eq_false hb14; have := of_decide_eq_false hb19; have := of_decide_eq_false hb26; have := of_decide_eq_false hb33; have := of_decide_eq_false hb39; have := of_decide_eq_false hb47; have := of_decide_eq_false hb59; have := of_decide_eq_false hb73; have := of_decide_eq_false hb86; have := of_decide_eq_false hb101; have := of_decide_eq_false hb104; omega) (by have := of_decide_eq_false hb6; have := of_decide_eq_false hb10; have := of_decide_eq_false hb14; have := of_decide_eq_false hb19; have := of_decide_eq_false hb26; have := of_decide_eq_false hb33; have := of_decide_eq_false hb39; have := of_decide_eq_false hb47; have := of_decide_eq_false hb59; have := of_decide_eq_false hb73; have := of_decide_eq_false hb86; have := of_decide_eq_false hb101; have := of_decide_eq_false hb104; omega) (by have := of_decide_eq_false hb6; have := of_decide_eq_false hb10; have := of_decide_eq_false hb14; have := of_decide_eq_false hb19; have := of_decide_eq_false hb26; have := of_decide_eq_false hb33; have := of_decide_eq_false hb39; have := of_decide_eq_false hb47; have := of_decide_eq_false hb59; have := of_decide_eq_false hb73; have := of_decide_eq_false hb86; have := of_decide_eq_false hb101; have := of_decide_eq_false hb104; omega); exact ⟨_, (_, _, ts), rfl, ⟨rfl, (congrArg Prod.snd hK9).symm, (congrArg Prod.fst hK9).symm, hZ, (H.b.at_ (j := 3) rfl).1, ⟨rowW rfl, rowFi rfl, rowBy rfl, rowW rfl⟩, fun _ => ⟨rfl, rfl⟩, (fun b9 off9 => ⟨fun _ h9 => absurd rfl h9, fun _ h9 => absurd rfl h9⟩)⟩⟩))
end Go.Proofs.YtomppebamfpimaaGreatDoor
