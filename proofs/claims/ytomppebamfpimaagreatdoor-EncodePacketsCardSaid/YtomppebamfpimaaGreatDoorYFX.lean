import Derived.Test.YtomppebamfpimaaGreatDoorYFW
import Derived.Test.YtomppebamfpimaaGreatDoorYFK
import Derived.Test.YtomppebamfpimaaGreatDoorYFT
import Derived.Test.YtomppebamfpimaaGreatDoorYFY
namespace Go.Proofs.YtomppebamfpimaaGreatDoor
open Go.RowKit
set_option linter.unusedVariables false
set_option linter.unusedSimpArgs false
set_option maxRecDepth 100000
theorem fn_69 (args : Array Value) (w : World) : (callFunc 69 args).run Tryz.prog w = .ok (.enter 69 args) w := gx_fn Tryz.func69 (by kernel_rfl) rfl args w
theorem fn_70 (args : Array Value) (w : World) : (callFunc 70 args).run Tryz.prog w = .ok (.enter 70 args) w := gx_fn Tryz.func70 (by kernel_rfl) rfl args w
theorem fn_46 (args : Array Value) (w : World) : (callFunc 46 args).run Tryz.prog w = .ok (.enter 46 args) w := gx_fn Tryz.func46 (by kernel_rfl) rfl args w
theorem fn_118 (args : Array Value) (w : World) : (callFunc 118 args).run Tryz.prog w = .ok (.enter 118 args) w := gx_fn Tryz.func118 (by kernel_rfl) rfl args w
theorem fn_27 (args : Array Value) (w : World) : (callFunc 27 args).run Tryz.prog w = .ok (.enter 27 args) w := gx_fn Tryz.func27 (by kernel_rfl) rfl args w
theorem fn_22 (args : Array Value) (w : World) : (callFunc 22 args).run Tryz.prog w = .ok (.enter 22 args) w := gx_fn Tryz.func22 (by kernel_rfl) rfl args w
theorem fn_50 (args : Array Value) (w : World) : (callFunc 50 args).run Tryz.prog w = .ok (.enter 50 args) w := gx_fn Tryz.func50 (by kernel_rfl) rfl args w
theorem fn_71 (args : Array Value) (w : World) : (callFunc 71 args).run Tryz.prog w = .ok (.enter 71 args) w := gx_fn Tryz.func71 (by kernel_rfl) rfl args w
theorem fn_67 (args : Array Value) (w : World) : (callFunc 67 args).run Tryz.prog w = .ok (.enter 67 args) w := gx_fn Tryz.func67 (by kernel_rfl) rfl args w
theorem fn_68 (args : Array Value) (w : World) : (callFunc 68 args).run Tryz.prog w = .ok (.enter 68 args) w := gx_fn Tryz.func68 (by kernel_rfl) rfl args w
theorem cv16_64 (n : Nat) (w : World) (h2 : n ≤ 65535) : (convert 22 46 (.int .u16 n)).run Tryz.prog w = .ok (.int .u64 n) w := by
 have u := Tryz.underlying22
 have u2 := Tryz.underlying46
 have e : IntKind.u64.wrap ((n : Int)) = (n : Int) := by rw [IntKind.wrap_u64]; omega
 go_simp
 try exact e
def OwnR (w0 : World) (m : List UInt8) (u : Value) (W : World) : Prop := ∃ a c, u = .slice a m.length c ∧ W.ownsRow w0.heap.size 5 1 (.slice a m.length c) m.length (B8 m)
theorem ownB_ownR {W w0 : World} {m : List UInt8} {f : Nat} {args : Array Value} (hk : w0.heap.size ≤ W.heap.size) (h : Calls Tryz.prog f args W (OwnB W m)) : Calls Tryz.prog f args W fun e w' => ∃ v, e = .returned v ∧ OwnR w0 m v w' ∧ Kept No W w' :=
 h.mono fun e w' ⟨a, c, h1, h2, h3⟩ => ⟨_, h1, ⟨a, c, rfl, og_base h2 hk⟩, h3⟩
theorem lays_ownR {W w0 : World} {m : List UInt8} {f : Nat} {args : Array Value} (hk : w0.heap.size ≤ W.heap.size) (h : Calls Tryz.prog f args W (Lays W m)) : Calls Tryz.prog f args W fun e w' => ∃ v, e = .returned v ∧ OwnR w0 m v w' ∧ Kept No W w' :=
 ownB_ownR hk (h.mono fun _ _ q => Lays.own q)
theorem refNum2 (a : Option Addr) (c : Nat) (l : List UInt8) (n : Nat) (w : World) (hn16 : n ≤ 65535) (hr : Row w a (B8 l)) (hn : a = none → l.length = 0 ∧ c = 0) (hl : l.length ≤ 100000) :
  Calls Tryz.prog 70 #[.slice a l.length c, .int .u64 n, .int .i64 2] w (Lays w (l ++ by2 n)) := by
 have h := refnum_any a c l n 2 1 rfl w (by omega) (by omega) hr (fun e => (hn e).2) (by omega)
 rw [be_bin n hn16] at h
 exact h
theorem row_b1 {w : World} {b x : Nat} (hb : Blk w b 5 #[.int .u8 x]) (hx : x ≤ 255) : Row w (some ⟨b, 0, none⟩) (B8 (by1 x)) := by
 unfold by1
 rw [B8_byteOf (by omega) (by omega)]
 refine .inr ⟨b, 0, rfl, hb.lt, fun j u hu => ?_⟩
 rw [hb.cell, Nat.zero_add, ← Array.getElem?_toList]
 exact hu
theorem row_b11 {w : World} {b x y : Nat} (hb : Blk w b 5 #[.int .u8 x, .int .u8 y]) (hx : x ≤ 255) (hy : y ≤ 255) : Row w (some ⟨b, 0, none⟩) (B8 (by1 x ++ by1 y)) := by
 unfold by1
 rw [B8_append, B8_byteOf (by omega) (by omega), B8_byteOf (by omega) (by omega)]
 refine .inr ⟨b, 0, rfl, hb.lt, fun j u hu => ?_⟩
 rw [hb.cell, Nat.zero_add, ← Array.getElem?_toList]
 exact hu
structure Sm (v : Int) (p : Pk) : Prop where
 ri : Ri v p
 s : (secB v p.props).length ≤ 19000
 w : (secB v p.willProps).length ≤ 19000
 f : (filtB p.kind p.filters).length ≤ 9100
 sum : p.client.size + p.willTopic.size + p.willLoad.size + p.user.size + p.pass.size + p.topic.size + p.load.size + p.codes.length ≤ 3000
 okp : v = 5 → ∃ n, lenGo p.props 0 = some n
 okw : v = 5 → ∃ n, lenGo p.willProps 0 = some n
theorem cvN8 (n : Nat) (w : World) (h2 : n ≤ 255) : (convert 3 5 (.int .i64 n)).run Tryz.prog w = .ok (.int .u8 (n : Int)) w := cvI8 n w (by omega) (by omega)
set_option maxHeartbeats 4000000 in
theorem bit_any (b : Bool) (n : Nat) (w : World) :
  Calls Tryz.prog 50 #[.bool b, .int .i64 n] w fun e w' => e = .returned (.int .i64 (bitN b n : Int)) ∧ Kept No w w' := by
 let RR : Ending → World → Prop := fun e w' => e = .returned (.int .i64 (bitN b n : Int)) ∧ Kept No w w'
 go_enter Tryz.func50, Tryz.ntmps50
 generalize hA : ({ tmps := _, defers := [] } : Act) = A
 have F : Fr A 7 [(1, (.int .i64 ((n : Int)))), (0, (.bool b))] := by rw [← hA]; exact (Fr.cons (i := 1) (v := (.int .i64 ((n : Int)))) (Fr.cons (i := 0) (v := (.bool b)) (Fr.nil0 rfl rfl) rfl) rfl)
 clear hA; have H := Hp.start w
 refine wp_seq_k (fun K1 hK1 => gx_region ?_)
 refine zd ?_; intro A F
 refine wpList_nil (hK1 _ _ ?_)
 refine wp_seq_k (fun K2 hK2 => ?_)
 refine wp_seq_k (fun K3 hK3 => gx_region ?_)
 refine zd ?_; intro A F
 refine wpList_nil (hK3 _ _ ?_)
 refine zc (fun hb4 => ?_) (fun hb4 => ?_)
 ·skip
  refine wp_seq_k (fun K5 hK5 => gx_region ?_)
  iterate 2 (refine zd ?_; intro A F)
  refine wpList_nil (hK5 _ _ ?_)
  refine gx_ret ?_
  refine (show bodyPost _ Tryz.f50 RR Exit.ret _ _ from zr ?_)
  exact ri (by simp [bitN, hb4])
 refine wp_skip (hK2 _ _ ?_)
 refine wp_seq_k (fun K6 hK6 => gx_region ?_)
 refine zd ?_; intro A F
 refine wpList_nil (hK6 _ _ ?_)
 refine gx_ret ?_
 refine (show bodyPost _ Tryz.f50 RR Exit.ret _ _ from zr ?_)
 exact ri (by simp [bitN, hb4])
set_option maxHeartbeats 4000000 in
theorem rflags_any (p : Pk) (s : Sl) (w : World) (hF : Fit p) :
  Calls Tryz.prog 22 #[p.val s] w fun e w' => e = .returned (.int .i64 (flagsN p : Int)) ∧ Kept No w w' := by
 have h1 := bitN_le p.retain 1; have h2 := bitN_le p.dup 8; have hq := hF.qos
 let RR : Ending → World → Prop := fun e w' => e = .returned (.int .i64 (flagsN p : Int)) ∧ Kept No w w'
 go_enter Tryz.func22, Tryz.ntmps22
 generalize hA : ({ tmps := _, defers := [] } : Act) = A
 have F : Fr A 23 [(0, (Pk.val p s))] := by rw [← hA]; exact (Fr.cons (i := 0) (v := (Pk.val p s)) (Fr.nil0 rfl rfl) rfl)
 clear hA; have H := Hp.start w
 refine wp_seq_k (fun K1 hK1 => gx_region ?_)
 refine hz_new (c := (Pk.cells p s)) (t := 27) F H rfl (ex_box rfl (F.e rfl) (gx_box _ _)) ?_; clear F A; intro b2 W A hk hN H9 F; clear H; have H := H9; clear H9
 clear hk hN
 refine zd ?_; intro A F
 refine wpList_nil (hK1 _ _ ?_)
 refine wp_seq_k (fun K3 hK3 => ?_)
 refine wp_seq_k (fun K4 hK4 => gx_region ?_)
 iterate 2 (refine zd ?_; intro A F)
 refine wpList_nil (hK4 _ _ ?_)
 refine wp_block ?_
 refine wp_seq_k (fun K5 hK5 => gx_region ?_)
 refine zb (rn_eql) ?_; intro A F
 refine zd ?_; intro A F
 refine wpList_nil (hK5 _ _ ?_)
 refine zc (fun hb6 => ?_) (fun hb6 => ?_)
 ·skip
  refine wp_seq_k (fun K7 hK7 => ?_)
  refine wp_region_held_drew (S := fun wx => Hp _ wx _) (by kernel_rfl) H.drew (fun H9 => ?_); clear H; have H := H9; clear H9
  generalize World.drew _ = W at *
  refine td 0 ?_; intro A F
  refine td 1 ?_; intro A F
  refine td 3 ?_; intro A F
  refine td 4 ?_; intro A F
  refine hzh_do (v := (.int .i64 ((p.qos : Int)))) (i := 5) F rfl rfl (by kernel_rfl) (fun _ _ _ h => h) (H) (fun wz H => (ex_conv rfl (F.e rfl) (cv8_any ((p.qos : Int)) _ (by omega) (by have := hF.qos; have := hF.wq; omega)))) ?_; intro A F
  refine hzh_do (i := 6) F rfl rfl (by kernel_rfl) (fun _ _ _ h => h) (H) (fun wz H => (ex_bin rfl gx_evc (F.e rfl) (rn_mul (gx_wrap_i64 (by omega) (by omega))))) ?_; intro A F
  refine td 8 ?_; intro A F
  refine td 9 ?_; intro A F
  refine hb_one (i := 2) (by kernel_rfl) (hb_callk (i := 2) F rfl rfl (ex_call rfl rfl (gx_l1 (F.e rfl) (gx_l1 gx_evc gx_l0)) fn_50) (bit_any p.retain 1 _) (fun _ hk => (H.kept hk)) ?_); clear F A; intro W A hk _ F; replace H := H.kept hk
  clear hk
  refine hzh_do (i := 7) F rfl rfl (by kernel_rfl) (fun _ _ _ h => h) (H) (fun wz H => (ex_bin rfl (F.e rfl) (F.e rfl) (rn_add (gx_wrap_i64 (by omega) (by omega))))) ?_; intro A F
  refine hb_one (i := 10) (by kernel_rfl) (hb_callk (i := 10) F rfl rfl (ex_call rfl rfl (gx_l1 (F.e rfl) (gx_l1 gx_evc gx_l0)) fn_50) (bit_any p.dup 8 _) (fun _ hk => (H.kept hk)) ?_); clear F A; intro W A hk _ F; replace H := H.kept hk
  clear hk
  refine hzh_do (i := 11) F rfl rfl (by kernel_rfl) (fun _ _ _ h => h) (H) (fun wz H => (ex_bin rfl (F.e rfl) (F.e rfl) (rn_add (gx_wrap_i64 (by omega) (by omega))))) ?_; intro A F
  refine td 12 ?_; intro A F
  refine wpAnyH_done (by kernel_rfl) ?_ _
  refine hK7 _ _ ?_
  refine gx_ret ?_
  refine (show bodyPost _ Tryz.f22 RR Exit.ret _ _ from zr ?_)
  exact ri (by have := hb6; simp only [decide_eq_true_eq, decide_eq_false_iff_not, Bool.or_eq_true, Bool.or_eq_false_iff] at *; unfold flagsN; (repeat' split) <;> first | rfl | (push_cast; omega) | omega | (exfalso; omega))
 refine wp_seq_k (fun K10 hK10 => ?_)
 refine wp_seq_k (fun K11 hK11 => gx_region ?_)
 refine zb (rn_eql) ?_; intro A F
 refine zd ?_; intro A F
 refine wpList_nil (hK11 _ _ ?_)
 refine zc (fun hb12 => ?_) (fun hb12 => ?_)
 ·skip
  refine wp_skip (hK10 _ _ ?_)
  refine wp_cond_true ((F.e rfl).trans (congrArg Value.bool hb12)) ?_
  refine wp_seq_k (fun K13 hK13 => gx_region ?_)
  refine zd ?_; intro A F
  refine wpList_nil (hK13 _ _ ?_)
  refine gx_ret ?_
  refine (show bodyPost _ Tryz.f22 RR Exit.ret _ _ from zr ?_)
  exact ri (by have := hb6; have := hb12; simp only [decide_eq_true_eq, decide_eq_false_iff_not, Bool.or_eq_true, Bool.or_eq_false_iff] at *; unfold flagsN; (repeat' split) <;> first | rfl | (push_cast; omega) | omega | (exfalso; omega))
 refine wp_seq_k (fun K14 hK14 => gx_region ?_)
 refine zb (rn_eql) ?_; intro A F
 refine zd ?_; intro A F
 refine wpList_nil (hK14 _ _ ?_)
 refine zc (fun hb15 => ?_) (fun hb15 => ?_)
 ·skip
  refine wp_skip (hK10 _ _ ?_)
  refine wp_cond_true ((F.e rfl).trans (congrArg Value.bool hb15)) ?_
  refine wp_seq_k (fun K16 hK16 => gx_region ?_)
  refine zd ?_; intro A F
  refine wpList_nil (hK16 _ _ ?_)
  refine gx_ret ?_
  refine (show bodyPost _ Tryz.f22 RR Exit.ret _ _ from zr ?_)
  exact ri (by have := hb6; have := hb12; have := hb15; simp only [decide_eq_true_eq, decide_eq_false_iff_not, Bool.or_eq_true, Bool.or_eq_false_iff] at *; unfold flagsN; (repeat' split) <;> first | rfl | (push_cast; omega) | omega | (exfalso; omega))
 refine gx_region ?_
 refine zb (rn_eql) ?_; intro A F
 refine zd ?_; intro A F
 refine wpList_nil (hK10 _ _ ?_)
 refine zc (fun hb17 => ?_) (fun hb17 => ?_)
 ·skip
  refine wp_seq_k (fun K18 hK18 => gx_region ?_)
  refine zd ?_; intro A F
  refine wpList_nil (hK18 _ _ ?_)
  refine gx_ret ?_
  refine (show bodyPost _ Tryz.f22 RR Exit.ret _ _ from zr ?_)
  exact ri (by have := hb6; have := hb12; have := hb15; have := hb17; simp only [decide_eq_true_eq, decide_eq_false_iff_not, Bool.or_eq_true, Bool.or_eq_false_iff] at *; unfold flagsN; (repeat' split) <;> first | rfl | (push_cast; omega) | omega | (exfalso; omega))
 refine wp_skip (hK3 _ _ ?_)
 refine wp_seq_k (fun K19 hK19 => gx_region ?_)
 refine zd ?_; intro A F
 refine wpList_nil (hK19 _ _ ?_)
 refine gx_ret ?_
 refine (show bodyPost _ Tryz.f22 RR Exit.ret _ _ from zr ?_)
 exact ri (by have := hb6; have := hb12; have := hb15; have := hb17; simp only [decide_eq_true_eq, decide_eq_false_iff_not, Bool.or_eq_true, Bool.or_eq_false_iff] at *; unfold flagsN; (repeat' split) <;> first | rfl | (push_cast; omega) | omega | (exfalso; omega))
theorem rput_own (w0 : World) (a : Option Addr) (c : Nat) (l : List UInt8) (sa : Option Addr) (sc : Nat) (L : List Pr) (w : World) (hO : w.ownsRow w0.heap.size 5 1 (.slice a l.length c) l.length (B8 l)) (hp : Row w sa (PC L)) (hl : l.length ≤ 100000) (hL : L.length ≤ 1000) (hw : ∀ p ∈ L, p.wf') (hok : ∃ n, lenGo L 0 = some n) (hB : w0.heap.size ≤ w.heap.size) :
  Calls Tryz.prog 118 #[.slice a l.length c, .slice sa L.length sc] w fun e w' => ∃ u, e = .returned u ∧ (∃ a9 c9, u = .tuple #[.slice a9 (l ++ putL [] L).length c9, .bool true] ∧ w'.ownsRow w0.heap.size 5 1 (.slice a9 (l ++ putL [] L).length c9) (l ++ putL [] L).length (B8 (l ++ putL [] L))) ∧ Kept No w w' := by
 obtain ⟨n, hn⟩ := hok
 refine (rput_str a c l sa sc L w (own_row hO).1 (own_row hO).2 hl hp hL hw).mono ?_
 rintro e w' ⟨-, h⟩
 obtain ⟨a9, c9, h1, h2, h3⟩ := h n hn
 have e2 : putL l L = l ++ putL [] L := by unfold putL; rw [hn]; simp [addVar]
 rw [e2] at h1 h2
 exact ⟨_, h1, ⟨a9, c9, rfl, og_base h2 hB⟩, h3⟩
theorem secB_r4 (v : Int) (L : List Pr) (h : decide (v = 4) = true) : secB v L = [] := by unfold secB; rw [if_pos (of_decide_eq_true h)]
theorem secB_r5 (v : Int) (L : List Pr) (h : decide (v = 4) = false) : secB v L = putL [] L := by unfold secB; rw [if_neg (of_decide_eq_false h)]
set_option maxHeartbeats 4000000 in
theorem rsection_any (w0 : World) {w : World} (v : Int) (L : List Pr) (sa : Option Addr) (sc : Nat) (a : Option Addr) (c : Nat) (l : List UInt8) (hO : w.ownsRow w0.heap.size 5 1 (.slice a l.length c) l.length (B8 l)) (hv : v = 4 ∨ v = 5) (hp : Row w sa (PC L)) (hL : L.length ≤ 1000) (hw : ∀ p ∈ L, p.wf') (hok : v = 5 → ∃ n, lenGo L 0 = some n) (hl : l.length ≤ 100000) (hB : w0.heap.size ≤ w.heap.size) :
  Calls Tryz.prog 68 #[.int .i64 v, .slice a l.length c, .slice sa L.length sc] w fun e w' => ∃ u, e = .returned u ∧ OwnR w0 (l ++ secB v L) u w' ∧ Kept No w w' := by
 let RR : Ending → World → Prop := fun e w' => ∃ u, e = .returned u ∧ OwnR w0 (l ++ secB v L) u w' ∧ Kept No w w'
 go_enter Tryz.func68, Tryz.ntmps68
 generalize hA : ({ tmps := _, defers := [] } : Act) = A
 have F : Fr A 19 [(2, (.slice sa L.length sc)), (1, (.slice a l.length c)), (0, (.int .i64 v))] := by rw [← hA]; exact (Fr.cons (i := 2) (v := (.slice sa L.length sc)) (Fr.cons (i := 1) (v := (.slice a l.length c)) (Fr.cons (i := 0) (v := (.int .i64 v)) (Fr.nil0 rfl rfl) rfl) rfl) rfl)
 clear hA; have H := Hp.start w
 refine wp_seq_k (fun K1 hK1 => gx_region ?_)
 refine zd ?_; intro A F
 refine wpList_nil (hK1 _ _ ?_)
 refine wp_seq_k (fun K2 hK2 => ?_)
 refine wp_seq_k (fun K3 hK3 => gx_region ?_)
 refine zd ?_; intro A F
 refine zb (rn_eql) ?_; intro A F
 refine wpList_nil (hK3 _ _ ?_)
 refine zc (fun hb4 => ?_) (fun hb4 => ?_)
 ·skip
  refine wp_seq_k (fun K5 hK5 => gx_region ?_)
  iterate 2 (refine zd ?_; intro A F)
  refine wpList_nil (hK5 _ _ ?_)
  refine gx_ret ?_
  refine (show bodyPost _ Tryz.f68 RR Exit.ret _ _ from zr ?_)
  exact ⟨_, rfl, ⟨a, c, by rw [secB_r4 v L hb4, List.append_nil], by rw [secB_r4 v L hb4, List.append_nil]; exact hO⟩, H.k⟩
 refine wp_skip (hK2 _ _ ?_)
 refine wp_seq_k (fun K6 hK6 => gx_region ?_)
 iterate 2 (refine zd ?_; intro A F)
 refine hz_call (R := fun u W9 => ∃ a9 c9, u = .tuple #[.slice a9 (l ++ putL [] L).length c9, .bool true] ∧ W9.ownsRow w0.heap.size 5 1 (.slice a9 (l ++ putL [] L).length c9) (l ++ putL [] L).length (B8 (l ++ putL [] L))) F H rfl (ex_call rfl rfl (gx_l1 (F.e rfl) (gx_l1 (F.e rfl) gx_l0)) fn_118) (rput_own w0 a c l sa sc L _ hO (hp.keptNo H.k) hl hL hw (hok (by have := of_decide_eq_false hb4; omega)) (Nat.le_trans hB H.size)) ?_; clear F H A; intro vv W A hR hk H F; obtain ⟨a9, c9, rfl, hO9⟩ := hR
 replace hO := og_kept hO hk
 clear hk
 iterate 5 (refine zd ?_; intro A F)
 refine wpList_nil (hK6 _ _ ?_)
 refine wp_seq_k (fun K8 hK8 => gx_region ?_)
 iterate 2 (refine zd ?_; intro A F)
 refine wpList_nil (hK8 _ _ ?_)
 refine gx_ret ?_
 refine (show bodyPost _ Tryz.f68 RR Exit.ret _ _ from zr ?_)
 exact ⟨_, rfl, ⟨a9, c9, by rw [secB_r5 v L hb4]; rfl, by rw [secB_r5 v L hb4]; exact hO9⟩, H.k⟩
def CoR (w0 W : World) (x : Value) (m : List UInt8) (u : Value) (W9 : World) : Prop := OwnR w0 m u W9 ∧ Kept (Sv x) W W9
set_option maxHeartbeats 4000000 in
theorem rcode_any (w0 w : World) (H : Hp w0 w []) (v : Int) (p : Pk) (s : Sl) (a : Option Addr) (c : Nat) (l : List UInt8) (hO : w.ownsRow w0.heap.size 5 1 (.slice a l.length c) l.length (B8 l)) (hp : p.At s w0) (hF : Fit p) (hS : Sm v p) (hN : Small p) (hl : l.length ≤ 50000) :
  Calls Tryz.prog 71 #[.int .i64 v, .slice a l.length c, p.val s] w fun e w' => ∃ u, e = .returned u ∧ CoR w0 w (.slice a l.length c) (l ++ shortB v p) u w' := by
 have HB := H; clear H
 let RR : Ending → World → Prop := fun e w' => ∃ u, e = .returned u ∧ CoR w0 w (.slice a l.length c) (l ++ shortB v p) u w'
 go_enter Tryz.func71, Tryz.ntmps71
 generalize hA : ({ tmps := _, defers := [] } : Act) = A
 have F : Fr A 36 [(2, (Pk.val p s)), (1, (.slice a l.length c)), (0, (.int .i64 v))] := by rw [← hA]; exact (Fr.cons (i := 2) (v := (Pk.val p s)) (Fr.cons (i := 1) (v := (.slice a l.length c)) (Fr.cons (i := 0) (v := (.int .i64 v)) (Fr.nil0 rfl rfl) rfl) rfl) rfl)
 clear hA; have H := HB; clear HB
 have hKS : Kept (Sv (.slice a l.length c)) w w := Kept.refl _ _
 refine wp_seq_k (fun K1 hK1 => gx_region ?_)
 refine hz_new (c := (Pk.cells p s)) (t := 27) F H rfl (ex_box rfl (F.e rfl) (gx_box _ _)) ?_; clear F A; intro b2 W A hk hN H9 F; clear H; have H := H9; clear H9
 replace hKS := hKS.then hk (fun _ _ f => f.elim)
 replace hO := og_kept hO hk
 clear hk hN
 refine zd ?_; intro A F
 refine wpList_nil (hK1 _ _ ?_)
 refine wp_seq_k (fun K3 hK3 => ?_)
 refine wp_seq_k (fun K4 hK4 => gx_region ?_)
 refine zd ?_; intro A F
 refine zb (rn_eql) ?_; intro A F
 refine zd ?_; intro A F
 iterate 2 (refine zg ?_; intro A F)
 refine zgb (rn_eqlN (i := p.code) (j := 0)) ?_; intro A F
 iterate 3 (refine zg ?_; intro A F)
 refine hz_g F rfl (hw_ot F rfl rfl rfl) (fun hG => (ex_len rfl (gx_l1 (F.o rfl hG) gx_l0) (rn_lens Tryz.underlying23))) ?_; intro A F
 refine zgb (rn_eqlN (i := p.props.length) (j := 0)) ?_; intro A F
 refine zg ?_; intro A F
 refine hz_do F rfl (ex_pickO rfl (F.e rfl) (fun hx => (F.o rfl (gnt hx))) rfl) ?_; intro A F
 refine wpList_nil (hK4 _ _ ?_)
 refine zc (fun hb5 => ?_) (fun hb5 => ?_)
 ·skip
  replace F := ((((F.nil.cons (F.g 6 _ rfl)).cons (F.g 5 _ rfl)).cons (F.g 1 _ rfl)).cons (F.g 0 _ rfl))
  refine wp_seq_k (fun K6 hK6 => gx_region ?_)
  iterate 2 (refine zd ?_; intro A F)
  refine wpList_nil (hK6 _ _ ?_)
  refine gx_ret ?_
  refine (show bodyPost _ Tryz.f71 RR Exit.ret _ _ from zr ?_)
  exact (by have hE : l = l ++ shortB v p := (by have := hb5; simp only [Bool.or_eq_true, Bool.and_eq_true, Bool.or_eq_false_iff, Bool.and_eq_false_iff, Bool.not_eq_true', Bool.not_eq_false', decide_eq_true_eq, decide_eq_false_iff_not] at *; unfold shortB; (repeat' split) <;> first | rfl | (simp only [List.append_nil]; done) | (simp only [List.append_assoc]; done) | (exfalso; omega)); exact ⟨_, rfl, hE ▸ ⟨a, c, rfl, hO⟩, hKS⟩)
 replace F := ((((F.nil.cons (F.g 6 _ rfl)).cons (F.g 5 _ rfl)).cons (F.g 1 _ rfl)).cons (F.g 0 _ rfl))
 refine wp_skip (hK3 _ _ ?_)
 refine wp_seq_k (fun K7 hK7 => gx_region ?_)
 iterate 3 (refine zd ?_; intro A F)
 refine hz_bs (c := #[(.int .u8 ((p.code : Int)))]) (t := 5) (m := 1) F H rfl (ex_buildSlice rfl (gx_p1 (F.e rfl) gx_p0) (by kernel_rfl)) ?_; clear F A; intro b8 W A hk hN H9 F; clear H; have H := H9; clear H9
 have hne_hO_b8 := og_lt hO hN
 replace hKS := hKS.then hk (fun _ _ f => f.elim)
 replace hO := og_kept hO hk
 clear hk hN
 obtain ⟨v9, W9, hrun, hO9, hg⟩ := app_bytes (l := l) hO (row_b1 (H.b.at_ (j := 0) rfl).1 (by have := hF.code; have := conFlN_lt hS.ri; have := hS.ri.hv; omega)) (fun e => by cases e) (by first | omega | (simp only [List.length_append, b1_len, b2_len, binBy_len, List.length_nil]; omega)) H.size
 have hkS := kept_grown hg; obtain ⟨a9, c9, hv9⟩ := own_slice hO9; subst hv9
 replace hKS := hKS.then hkS (fun _ _ e => e)
 refine hz_do F rfl (ex_builtin rfl (gx_l1 (F.e rfl) (gx_l1 (F.e rfl) gx_l0)) (fun cs => by simp only [builtin]; exact gx_val hrun)) ?_; intro A F
 replace H := Hp.grown H hO hkS (fa1 (sv_lt hne_hO_b8) (fa1 (sv_type hO (H.b.at_ (j := 1) rfl).1 (show 27 ≠ 5 by decide)) fa0))
 clear hrun hg hkS; clear hO; have hO9x := hO9; clear hO9; generalize W9 = W at *
 replace H := Hp.del [] H
 refine zd ?_; intro A F
 refine wpList_nil (hK7 _ _ ?_)
 refine wp_seq_k (fun K10 hK10 => ?_)
 refine wp_seq_k (fun K11 hK11 => gx_region ?_)
 iterate 2 (refine zd ?_; intro A F)
 refine hz_do F rfl (ex_len rfl (gx_l1 (F.e rfl) gx_l0) (rn_lens Tryz.underlying23)) ?_; intro A F
 refine zb (rn_eqlN (i := p.props.length) (j := 0)) ?_; intro A F
 refine wpList_nil (hK11 _ _ ?_)
 refine zc (fun hb12 => ?_) (fun hb12 => ?_)
 ·skip
  refine wp_seq_k (fun K13 hK13 => gx_region ?_)
  iterate 2 (refine zd ?_; intro A F)
  refine wpList_nil (hK13 _ _ ?_)
  refine gx_ret ?_
  refine (show bodyPost _ Tryz.f71 RR Exit.ret _ _ from zr ?_)
  exact (by have hE : (l ++ (by1 p.code)) = l ++ shortB v p := (by have := hb5; have := hb12; simp only [Bool.or_eq_true, Bool.and_eq_true, Bool.or_eq_false_iff, Bool.and_eq_false_iff, Bool.not_eq_true', Bool.not_eq_false', decide_eq_true_eq, decide_eq_false_iff_not] at *; unfold shortB; (repeat' split) <;> first | rfl | (simp only [List.append_nil]; done) | (simp only [List.append_assoc]; done) | (exfalso; omega)); exact ⟨_, rfl, hE ▸ ⟨a9, c9, rfl, hO9x⟩, hKS⟩)
 refine wp_skip (hK10 _ _ ?_)
 refine wp_seq_k (fun K14 hK14 => gx_region ?_)
 iterate 4 (refine zd ?_; intro A F)
 refine hz_call (R := OwnR w0 ((l ++ (by1 p.code)) ++ secB v p.props)) F H rfl (ex_call rfl rfl (gx_l1 (F.e rfl) (gx_l1 (F.e rfl) (gx_l1 (F.e rfl) gx_l0))) fn_68) (rsection_any w0 v p.props s.pa s.pc a9 c9 (l ++ (by1 p.code)) hO9x hS.ri.hv (hp.kept H.k).hp (by have := hF.few.hp; have := hN.np; omega) hF.wf.p hS.okp (by first | omega | (simp only [List.length_append, b1_len, b2_len, binBy_len, List.length_nil]; omega)) H.size) ?_; clear F H A; intro vv W A hR hk H F; obtain ⟨a15, c15, rfl, hO15⟩ := hR
 replace hKS := hKS.then hk (fun _ _ f => f.elim)
 clear hk
 refine zd ?_; intro A F
 refine wpList_nil (hK14 _ _ ?_)
 refine gx_ret ?_
 refine (show bodyPost _ Tryz.f71 RR Exit.ret _ _ from zr ?_)
 exact (by have hE : ((l ++ (by1 p.code)) ++ secB v p.props) = l ++ shortB v p := (by have := hb5; have := hb12; simp only [Bool.or_eq_true, Bool.and_eq_true, Bool.or_eq_false_iff, Bool.and_eq_false_iff, Bool.not_eq_true', Bool.not_eq_false', decide_eq_true_eq, decide_eq_false_iff_not] at *; unfold shortB; (repeat' split) <;> first | rfl | (simp only [List.append_nil]; done) | (simp only [List.append_assoc]; done) | (exfalso; omega)); exact ⟨_, rfl, hE ▸ ⟨a15, c15, rfl, hO15⟩, hKS⟩)
set_option maxHeartbeats 4000000 in
theorem rconnect8_any (v : Int) (p : Pk) (s : Sl) (w : World) (hp : p.At s w) (hF : Fit p) (hS : Sm v p) (hN : Small p) (hcn : s.ca = none → p.codes.length = 0 ∧ s.cc = 0) :
  Calls Tryz.prog 67 #[.int .i64 v, p.val s] w fun e w' => ∃ u, e = .returned u ∧ OwnR w (connB v p) u w' ∧ Kept No w w' := by
 have h1 := bitN_le p.clean 2; have h2 := bitN_le p.hasWill 4; have hq := hS.ri.wq; have h3 := bitN_le p.willRetain 32; have h4 := bitN_le p.hasPass 64; have h5 := bitN_le p.hasUser 128
 have e1 := hS.s; have e2 := hS.w; have e3 := hS.sum; have e4 : (⟨#[77, 81, 84, 84]⟩ : ByteArray).size = 4 := rfl
 let RR : Ending → World → Prop := fun e w' => ∃ u, e = .returned u ∧ OwnR w (connB v p) u w' ∧ Kept No w w'
 go_enter Tryz.func67, Tryz.ntmps67
 generalize hA : ({ tmps := _, defers := [] } : Act) = A
 have F : Fr A 77 [(1, (Pk.val p s)), (0, (.int .i64 v))] := by rw [← hA]; exact (Fr.cons (i := 1) (v := (Pk.val p s)) (Fr.cons (i := 0) (v := (.int .i64 v)) (Fr.nil0 rfl rfl) rfl) rfl)
 clear hA; have H := Hp.start w
 refine wp_seq_k (fun K1 hK1 => gx_region ?_)
 refine hz_new (c := (Pk.cells p s)) (t := 27) F H rfl (ex_box rfl (F.e rfl) (gx_box _ _)) ?_; clear F A; intro b2 W A hk hN H9 F; clear H; have H := H9; clear H9
 clear hk hN
 refine zd ?_; intro A F
 refine wpList_nil (hK1 _ _ ?_)
 refine wp_seq_k (fun K3 hK3 => gx_region ?_)
 refine hz_call (R := OwnR w (([] : List UInt8) ++ binBy (⟨#[77, 81, 84, 84]⟩))) F H rfl (ex_call rfl rfl (gx_l1 gx_evc (gx_l1 gx_evc gx_l0)) fn_69) (lays_ownR H.size (refbinX none 0 ([] : List UInt8) (⟨#[77, 81, 84, 84]⟩) _ (by first | (unfold mqtt; decide) | decide) (.nil _ _) (fun _ => ⟨rfl, rfl⟩) (by first | omega | (simp only [List.length_append, b1_len, b2_len, binBy_len, List.length_nil]; omega)))) ?_; clear F H A; intro vv W A hR hk H F; obtain ⟨a4, c4, rfl, hO4⟩ := hR
 clear hk
 refine zd ?_; intro A F
 refine wpList_nil (hK3 _ _ ?_)
 refine wp_seq_k (fun K5 hK5 => ?_)
 refine wp_region_held_drew (S := fun wx => Hp _ wx _) (by kernel_rfl) H.drew (fun H9 => ?_); clear H; have H := H9; clear H9
 replace hO4 := og_kept hO4 (Kept.refl No _).drew
 generalize World.drew _ = W at *
 refine td 0 ?_; intro A F
 refine td 1 ?_; intro A F
 refine td 3 ?_; intro A F
 refine td 4 ?_; intro A F
 refine td 7 ?_; intro A F
 refine td 8 ?_; intro A F
 refine hzh_do (v := (.int .i64 ((p.willQoS : Int)))) (i := 9) F rfl rfl (by kernel_rfl) (fun _ _ _ h => h) (H) (fun wz H => (ex_conv rfl (F.e rfl) (cv8_any ((p.willQoS : Int)) _ (by omega) (by have := hF.qos; have := hF.wq; omega)))) ?_; intro A F
 refine hzh_do (i := 10) F rfl rfl (by kernel_rfl) (fun _ _ _ h => h) (H) (fun wz H => (ex_bin rfl gx_evc (F.e rfl) (rn_mul (gx_wrap_i64 (by omega) (by omega))))) ?_; intro A F
 refine td 12 ?_; intro A F
 refine td 13 ?_; intro A F
 refine td 16 ?_; intro A F
 refine td 17 ?_; intro A F
 refine td 20 ?_; intro A F
 refine td 21 ?_; intro A F
 refine hb_one (i := 2) (by kernel_rfl) (hb_callk (i := 2) F rfl rfl (ex_call rfl rfl (gx_l1 (F.e rfl) (gx_l1 gx_evc gx_l0)) fn_50) (bit_any p.clean 2 _) (fun _ hk => (H.kept hk)) ?_); clear F A; intro W A hk _ F; replace H := H.kept hk
 replace hO4 := og_kept hO4 hk
 clear hk
 refine hb_one (i := 5) (by kernel_rfl) (hb_callk (i := 5) F rfl rfl (ex_call rfl rfl (gx_l1 (F.e rfl) (gx_l1 gx_evc gx_l0)) fn_50) (bit_any p.hasWill 4 _) (fun _ hk => (H.kept hk)) ?_); clear F A; intro W A hk _ F; replace H := H.kept hk
 replace hO4 := og_kept hO4 hk
 clear hk
 refine hzh_do (i := 6) F rfl rfl (by kernel_rfl) (fun _ _ _ h => h) (H) (fun wz H => (ex_bin rfl (F.e rfl) (F.e rfl) (rn_add (gx_wrap_i64 (by omega) (by omega))))) ?_; intro A F
 refine hzh_do (i := 11) F rfl rfl (by kernel_rfl) (fun _ _ _ h => h) (H) (fun wz H => (ex_bin rfl (F.e rfl) (F.e rfl) (rn_add (gx_wrap_i64 (by omega) (by omega))))) ?_; intro A F
 refine hb_one (i := 14) (by kernel_rfl) (hb_callk (i := 14) F rfl rfl (ex_call rfl rfl (gx_l1 (F.e rfl) (gx_l1 gx_evc gx_l0)) fn_50) (bit_any p.willRetain 32 _) (fun _ hk => (H.kept hk)) ?_); clear F A; intro W A hk _ F; replace H := H.kept hk
 replace hO4 := og_kept hO4 hk
 clear hk
 refine hzh_do (i := 15) F rfl rfl (by kernel_rfl) (fun _ _ _ h => h) (H) (fun wz H => (ex_bin rfl (F.e rfl) (F.e rfl) (rn_add (gx_wrap_i64 (by omega) (by omega))))) ?_; intro A F
 refine hb_one (i := 18) (by kernel_rfl) (hb_callk (i := 18) F rfl rfl (ex_call rfl rfl (gx_l1 (F.e rfl) (gx_l1 gx_evc gx_l0)) fn_50) (bit_any p.hasPass 64 _) (fun _ hk => (H.kept hk)) ?_); clear F A; intro W A hk _ F; replace H := H.kept hk
 replace hO4 := og_kept hO4 hk
 clear hk
 refine hzh_do (i := 19) F rfl rfl (by kernel_rfl) (fun _ _ _ h => h) (H) (fun wz H => (ex_bin rfl (F.e rfl) (F.e rfl) (rn_add (gx_wrap_i64 (by omega) (by omega))))) ?_; intro A F
 refine hb_one (i := 22) (by kernel_rfl) (hb_callk (i := 22) F rfl rfl (ex_call rfl rfl (gx_l1 (F.e rfl) (gx_l1 gx_evc gx_l0)) fn_50) (bit_any p.hasUser 128 _) (fun _ hk => (H.kept hk)) ?_); clear F A; intro W A hk _ F; replace H := H.kept hk
 replace hO4 := og_kept hO4 hk
 clear hk
 refine hzh_do (i := 23) F rfl rfl (by kernel_rfl) (fun _ _ _ h => h) (H) (fun wz H => (ex_bin rfl (F.e rfl) (F.e rfl) (rn_add (gx_wrap_i64 (by omega) (by omega))))) ?_; intro A F
 refine td 24 ?_; intro A F
 refine wpAnyH_done (by kernel_rfl) ?_ _
 refine hK5 _ _ ?_
 refine wp_seq_k (fun K11 hK11 => gx_region ?_)
 iterate 2 (refine zd ?_; intro A F)
 refine hz_do (v := (.int .u8 ((v.toNat : Int)))) F rfl (ex_conv rfl (F.e rfl) (cvI8 v _ (by have := hS.ri.hv; omega) (by have := hS.ri.hv; omega))) ?_; intro A F
 refine zd ?_; intro A F
 refine hz_do (v := (.int .u8 ((conFlN p : Int)))) F rfl (ex_conv rfl ((F.e rfl).trans (show _ = Value.int .i64 (conFlN p : Int) from congrArg _ (by (try unfold conFlN); push_cast; omega))) (cvN8 (conFlN p) _ (by have := conFlN_lt hS.ri; have := flagsN_lt hS.ri; have := hS.ri.k2; unfold conFlN at *; omega))) ?_; intro A F
 refine hz_bs (c := #[(.int .u8 ((v.toNat : Int))), (.int .u8 ((conFlN p : Int)))]) (t := 5) (m := 2) F H rfl (ex_buildSlice rfl (gx_p1 (F.e rfl) (gx_p1 (F.e rfl) gx_p0)) (by kernel_rfl)) ?_; clear F A; intro b12 W A hk hN H9 F; clear H; have H := H9; clear H9
 have hne_hO4_b12 := og_lt hO4 hN
 replace hO4 := og_kept hO4 hk
 clear hk hN
 obtain ⟨v9, W9, hrun, hO9, hg⟩ := app_bytes (l := (([] : List UInt8) ++ binBy (⟨#[77, 81, 84, 84]⟩))) hO4 (row_b11 (H.b.at_ (j := 0) rfl).1 (by have := hF.code; have := conFlN_lt hS.ri; have := hS.ri.hv; omega) (by have := hF.code; have := conFlN_lt hS.ri; have := hS.ri.hv; omega)) (fun e => by cases e) (by first | omega | (simp only [List.length_append, b1_len, b2_len, binBy_len, List.length_nil]; omega)) H.size
 have hkS := kept_grown hg; obtain ⟨a13, c13, hv9⟩ := own_slice hO9; subst hv9
 refine hz_do F rfl (ex_builtin rfl (gx_l1 (F.e rfl) (gx_l1 (F.e rfl) gx_l0)) (fun cs => by simp only [builtin]; exact gx_val hrun)) ?_; intro A F
 replace H := Hp.grown H hO4 hkS (fa1 (sv_lt hne_hO4_b12) (fa1 (sv_type hO4 (H.b.at_ (j := 1) rfl).1 (show 27 ≠ 5 by decide)) fa0))
 clear hrun hg hkS; clear hO4; have hO13x := hO9; clear hO9; generalize W9 = W at *
 replace H := Hp.del [] H
 refine zd ?_; intro A F
 refine wpList_nil (hK11 _ _ ?_)
 refine wp_seq_k (fun K14 hK14 => ?_)
 refine wp_region_held_drew (S := fun wx => Hp _ wx _) (by kernel_rfl) H.drew (fun H9 => ?_); clear H; have H := H9; clear H9
 replace hO13x := og_kept hO13x (Kept.refl No _).drew
 generalize World.drew _ = W at *
 refine td 0 ?_; intro A F
 refine td 1 ?_; intro A F
 refine td 2 ?_; intro A F
 refine td 3 ?_; intro A F
 refine hzh_do (v := (.int .u64 ((p.keep : Int)))) (i := 4) F rfl rfl (by kernel_rfl) (fun _ _ _ h => h) (H) (fun wz H => (ex_conv rfl (F.e rfl) (cv16_64 p.keep _ (by have := hF.id; have := hF.keep; omega)))) ?_; intro A F
 refine td 6 ?_; intro A F
 refine td 7 ?_; intro A F
 refine td 9 ?_; intro A F
 refine td 10 ?_; intro A F
 refine hb_one (i := 5) (by kernel_rfl) (hb_call (i := 5) (R := OwnR w (((([] : List UInt8) ++ binBy (⟨#[77, 81, 84, 84]⟩)) ++ (by1 v.toNat ++ by1 (conFlN p))) ++ by2 p.keep)) F rfl rfl (ex_call rfl rfl (gx_l1 (F.e rfl) (gx_l1 (F.e rfl) (gx_l1 gx_evc gx_l0))) fn_70) (lays_ownR H.size (refNum2 a13 c13 ((([] : List UInt8) ++ binBy (⟨#[77, 81, 84, 84]⟩)) ++ (by1 v.toNat ++ by1 (conFlN p))) p.keep _ (by have := hF.id; have := hF.keep; omega) (own_row hO13x).1 (own_row hO13x).2 (by first | omega | (simp only [List.length_append, b1_len, b2_len, binBy_len, List.length_nil]; omega)))) (fun _ hk => (H.kept hk)) ?_); clear F A; intro vv W A hR hk _ F; replace H := H.kept hk; obtain ⟨a15, c15, rfl, hO15⟩ := hR
 clear hk
 refine hb_one (i := 8) (by kernel_rfl) (hb_call (i := 8) (R := OwnR w ((((([] : List UInt8) ++ binBy (⟨#[77, 81, 84, 84]⟩)) ++ (by1 v.toNat ++ by1 (conFlN p))) ++ by2 p.keep) ++ secB v p.props)) F rfl rfl (ex_call rfl rfl (gx_l1 (F.e rfl) (gx_l1 (F.e rfl) (gx_l1 (F.e rfl) gx_l0))) fn_68) (rsection_any w v p.props s.pa s.pc a15 c15 (((([] : List UInt8) ++ binBy (⟨#[77, 81, 84, 84]⟩)) ++ (by1 v.toNat ++ by1 (conFlN p))) ++ by2 p.keep) hO15 hS.ri.hv (hp.kept H.k).hp (by have := hF.few.hp; have := hN.np; omega) hF.wf.p hS.okp (by first | omega | (simp only [List.length_append, b1_len, b2_len, binBy_len, List.length_nil]; omega)) H.size) (fun _ hk => (H.kept hk)) ?_); clear F A; intro vv W A hR hk _ F; replace H := H.kept hk; obtain ⟨a16, c16, rfl, hO16⟩ := hR
 clear hk
 refine hb_one (i := 11) (by kernel_rfl) (hb_call (i := 11) (R := OwnR w (((((([] : List UInt8) ++ binBy (⟨#[77, 81, 84, 84]⟩)) ++ (by1 v.toNat ++ by1 (conFlN p))) ++ by2 p.keep) ++ secB v p.props) ++ binBy p.client)) F rfl rfl (ex_call rfl rfl (gx_l1 (F.e rfl) (gx_l1 (F.e rfl) gx_l0)) fn_69) (lays_ownR H.size (refbinX a16 c16 ((((([] : List UInt8) ++ binBy (⟨#[77, 81, 84, 84]⟩)) ++ (by1 v.toNat ++ by1 (conFlN p))) ++ by2 p.keep) ++ secB v p.props) p.client _ (by exact hS.ri.client) (own_row hO16).1 (own_row hO16).2 (by first | omega | (simp only [List.length_append, b1_len, b2_len, binBy_len, List.length_nil]; omega)))) (fun _ hk => (H.kept hk)) ?_); clear F A; intro vv W A hR hk _ F; replace H := H.kept hk; obtain ⟨a17, c17, rfl, hO17⟩ := hR
 clear hk
 refine td 12 ?_; intro A F
 refine wpAnyH_done (by kernel_rfl) ?_ _
 refine hK14 _ _ ?_
 refine hz_cut (fun A W => ∃ l18 : List UInt8, ∃ a18 : Option Addr, ∃ c18 : Nat, Fr A 77 [(3, (.pointer (some ⟨b2, 0, none⟩))), (4, (.slice none 0 0)), (5, (.slice a18 l18.length c18))] ∧ Hp w W [⟨b2, 27, (Pk.cells p s)⟩] ∧ W.ownsRow w.heap.size 5 1 (.slice a18 l18.length c18) l18.length ((B8 l18)) ∧ (l18 = (((((([] : List UInt8) ++ binBy (⟨#[77, 81, 84, 84]⟩)) ++ (by1 v.toNat ++ by1 (conFlN p))) ++ by2 p.keep) ++ secB v p.props) ++ binBy p.client) ++ (if p.hasWill = true then secB v p.willProps ++ binBy p.willTopic ++ binBy p.willLoad else [])) ∧ (l18.length ≤ 60000)) (fun A W hM => ?_) (fun K19 hK19 => ?_)
 rotate_left
 ·skip
  refine wp_seq_k (fun K20 hK20 => gx_region ?_)
  iterate 2 (refine zd ?_; intro A F)
  refine wpList_nil (hK20 _ _ ?_)
  refine zc (fun hb21 => ?_) (fun hb21 => ?_)
  ·skip
   replace F := ((((F.nil.cons (F.g 5 _ rfl)).cons (F.g 4 _ rfl)).cons (F.g 3 _ rfl)).cons (F.g 0 _ rfl))
   refine wp_region_held_drew (S := fun wx => Hp _ wx _) (by kernel_rfl) H.drew (fun H9 => ?_); clear H; have H := H9; clear H9
   replace hO17 := og_kept hO17 (Kept.refl No _).drew
   generalize World.drew _ = W at *
   refine td 0 ?_; intro A F
   refine td 1 ?_; intro A F
   refine td 2 ?_; intro A F
   refine td 3 ?_; intro A F
   refine td 5 ?_; intro A F
   refine td 6 ?_; intro A F
   refine td 8 ?_; intro A F
   refine td 9 ?_; intro A F
   refine hb_one (i := 4) (by kernel_rfl) (hb_call (i := 4) (R := OwnR w ((((((([] : List UInt8) ++ binBy (⟨#[77, 81, 84, 84]⟩)) ++ (by1 v.toNat ++ by1 (conFlN p))) ++ by2 p.keep) ++ secB v p.props) ++ binBy p.client) ++ secB v p.willProps)) F rfl rfl (ex_call rfl rfl (gx_l1 (F.e rfl) (gx_l1 (F.e rfl) (gx_l1 (F.e rfl) gx_l0))) fn_68) (rsection_any w v p.willProps s.wa s.wc a17 c17 (((((([] : List UInt8) ++ binBy (⟨#[77, 81, 84, 84]⟩)) ++ (by1 v.toNat ++ by1 (conFlN p))) ++ by2 p.keep) ++ secB v p.props) ++ binBy p.client) hO17 hS.ri.hv (hp.kept H.k).hw (by have := hF.few.hw; have := hN.nw; omega) hF.wf.w hS.okw (by first | omega | (simp only [List.length_append, b1_len, b2_len, binBy_len, List.length_nil]; omega)) H.size) (fun _ hk => (H.kept hk)) ?_); clear F A; intro vv W A hR hk _ F; replace H := H.kept hk; obtain ⟨a22, c22, rfl, hO22⟩ := hR
   clear hk
   refine hb_one (i := 7) (by kernel_rfl) (hb_call (i := 7) (R := OwnR w (((((((([] : List UInt8) ++ binBy (⟨#[77, 81, 84, 84]⟩)) ++ (by1 v.toNat ++ by1 (conFlN p))) ++ by2 p.keep) ++ secB v p.props) ++ binBy p.client) ++ secB v p.willProps) ++ binBy p.willTopic)) F rfl rfl (ex_call rfl rfl (gx_l1 (F.e rfl) (gx_l1 (F.e rfl) gx_l0)) fn_69) (lays_ownR H.size (refbinX a22 c22 ((((((([] : List UInt8) ++ binBy (⟨#[77, 81, 84, 84]⟩)) ++ (by1 v.toNat ++ by1 (conFlN p))) ++ by2 p.keep) ++ secB v p.props) ++ binBy p.client) ++ secB v p.willProps) p.willTopic _ (by exact hS.ri.willTopic) (own_row hO22).1 (own_row hO22).2 (by first | omega | (simp only [List.length_append, b1_len, b2_len, binBy_len, List.length_nil]; omega)))) (fun _ hk => (H.kept hk)) ?_); clear F A; intro vv W A hR hk _ F; replace H := H.kept hk; obtain ⟨a23, c23, rfl, hO23⟩ := hR
   clear hk
   refine hb_one (i := 10) (by kernel_rfl) (hb_call (i := 10) (R := OwnR w ((((((((([] : List UInt8) ++ binBy (⟨#[77, 81, 84, 84]⟩)) ++ (by1 v.toNat ++ by1 (conFlN p))) ++ by2 p.keep) ++ secB v p.props) ++ binBy p.client) ++ secB v p.willProps) ++ binBy p.willTopic) ++ binBy p.willLoad)) F rfl rfl (ex_call rfl rfl (gx_l1 (F.e rfl) (gx_l1 (F.e rfl) gx_l0)) fn_69) (lays_ownR H.size (refbinX a23 c23 (((((((([] : List UInt8) ++ binBy (⟨#[77, 81, 84, 84]⟩)) ++ (by1 v.toNat ++ by1 (conFlN p))) ++ by2 p.keep) ++ secB v p.props) ++ binBy p.client) ++ secB v p.willProps) ++ binBy p.willTopic) p.willLoad _ (by exact hS.ri.willLoad) (own_row hO23).1 (own_row hO23).2 (by first | omega | (simp only [List.length_append, b1_len, b2_len, binBy_len, List.length_nil]; omega)))) (fun _ hk => (H.kept hk)) ?_); clear F A; intro vv W A hR hk _ F; replace H := H.kept hk; obtain ⟨a24, c24, rfl, hO24⟩ := hR
   clear hk
   refine td 11 ?_; intro A F
   refine wpAnyH_done (by kernel_rfl) ?_ _
   exact hK19 _ _ ⟨((((((((([] : List UInt8) ++ binBy (⟨#[77, 81, 84, 84]⟩)) ++ (by1 v.toNat ++ by1 (conFlN p))) ++ by2 p.keep) ++ secB v p.props) ++ binBy p.client) ++ secB v p.willProps) ++ binBy p.willTopic) ++ binBy p.willLoad), a24, c24, (((F.nil.cons (F.g 5 _ rfl)).cons (F.g 4 _ rfl)).cons (F.g 3 _ rfl)), H, hO24, (by simp [hb21]), (by first | omega | (simp only [List.length_append, b1_len, b2_len, binBy_len, List.length_nil]; omega))⟩
  replace F := ((((F.nil.cons (F.g 5 _ rfl)).cons (F.g 4 _ rfl)).cons (F.g 3 _ rfl)).cons (F.g 0 _ rfl))
  refine wp_skip ?_
  exact hK19 _ _ ⟨(((((([] : List UInt8) ++ binBy (⟨#[77, 81, 84, 84]⟩)) ++ (by1 v.toNat ++ by1 (conFlN p))) ++ by2 p.keep) ++ secB v p.props) ++ binBy p.client), a17, c17, (((F.nil.cons (F.g 5 _ rfl)).cons (F.g 4 _ rfl)).cons (F.g 3 _ rfl)), H, hO17, (by simp [hb21]), (by first | omega | (simp only [List.length_append, b1_len, b2_len, binBy_len, List.length_nil]; omega))⟩
 clear F H hO17; obtain ⟨l18, a18, c18, F, H, hO18, hl18, hm18⟩ := hM
 refine hz_cut (fun A W => ∃ l25 : List UInt8, ∃ a25 : Option Addr, ∃ c25 : Nat, Fr A 77 [(3, (.pointer (some ⟨b2, 0, none⟩))), (4, (.slice none 0 0)), (5, (.slice a25 l25.length c25))] ∧ Hp w W [⟨b2, 27, (Pk.cells p s)⟩] ∧ W.ownsRow w.heap.size 5 1 (.slice a25 l25.length c25) l25.length ((B8 l25)) ∧ (l25 = l18 ++ (if p.hasUser = true then binBy p.user else [])) ∧ (l25.length ≤ 65000)) (fun A W hM => ?_) (fun K26 hK26 => ?_)
 rotate_left
 ·skip
  refine wp_seq_k (fun K27 hK27 => gx_region ?_)
  iterate 2 (refine zd ?_; intro A F)
  refine wpList_nil (hK27 _ _ ?_)
  refine zc (fun hb28 => ?_) (fun hb28 => ?_)
  ·skip
   refine gx_region ?_
   iterate 3 (refine zd ?_; intro A F)
   refine hz_call (R := OwnR w (l18 ++ binBy p.user)) F H rfl (ex_call rfl rfl (gx_l1 (F.e rfl) (gx_l1 (F.e rfl) gx_l0)) fn_69) (lays_ownR H.size (refbinX a18 c18 l18 p.user _ (by exact hS.ri.user) (own_row hO18).1 (own_row hO18).2 (by first | omega | (simp only [List.length_append, b1_len, b2_len, binBy_len, List.length_nil]; omega)))) ?_; clear F H A; intro vv W A hR hk H F; obtain ⟨a29, c29, rfl, hO29⟩ := hR
   clear hk
   refine zd ?_; intro A F
   refine wpList_nil ?_
   exact hK26 _ _ ⟨(l18 ++ binBy p.user), a29, c29, (((F.nil.cons (F.g 5 _ rfl)).cons (F.g 4 _ rfl)).cons (F.g 3 _ rfl)), H, hO29, (by simp [hb28]), (by first | omega | (simp only [List.length_append, b1_len, b2_len, binBy_len, List.length_nil]; omega))⟩
  refine wp_skip ?_
  exact hK26 _ _ ⟨l18, a18, c18, (((F.nil.cons (F.g 5 _ rfl)).cons (F.g 4 _ rfl)).cons (F.g 3 _ rfl)), H, hO18, (by simp [hb28]), (by first | omega | (simp only [List.length_append, b1_len, b2_len, binBy_len, List.length_nil]; omega))⟩
 clear F H hO18; obtain ⟨l25, a25, c25, F, H, hO25, hl25, hm25⟩ := hM
 refine hz_cut (fun A W => ∃ l30 : List UInt8, ∃ a30 : Option Addr, ∃ c30 : Nat, Fr A 77 [(4, (.slice none 0 0)), (5, (.slice a30 l30.length c30))] ∧ Hp w W [⟨b2, 27, (Pk.cells p s)⟩] ∧ W.ownsRow w.heap.size 5 1 (.slice a30 l30.length c30) l30.length ((B8 l30)) ∧ (l30 = l25 ++ (if p.hasPass = true then binBy p.pass else [])) ∧ (l30.length ≤ 70000)) (fun A W hM => ?_) (fun K31 hK31 => ?_)
 rotate_left
 ·skip
  refine wp_seq_k (fun K32 hK32 => gx_region ?_)
  iterate 2 (refine zd ?_; intro A F)
  refine wpList_nil (hK32 _ _ ?_)
  refine zc (fun hb33 => ?_) (fun hb33 => ?_)
  ·skip
   refine gx_region ?_
   iterate 3 (refine zd ?_; intro A F)
   refine hz_call (R := OwnR w (l25 ++ binBy p.pass)) F H rfl (ex_call rfl rfl (gx_l1 (F.e rfl) (gx_l1 (F.e rfl) gx_l0)) fn_69) (lays_ownR H.size (refbinX a25 c25 l25 p.pass _ (by exact hS.ri.pass) (own_row hO25).1 (own_row hO25).2 (by first | omega | (simp only [List.length_append, b1_len, b2_len, binBy_len, List.length_nil]; omega)))) ?_; clear F H A; intro vv W A hR hk H F; obtain ⟨a34, c34, rfl, hO34⟩ := hR
   clear hk
   refine zd ?_; intro A F
   refine wpList_nil ?_
   exact hK31 _ _ ⟨(l25 ++ binBy p.pass), a34, c34, ((F.nil.cons (F.g 5 _ rfl)).cons (F.g 4 _ rfl)), H, hO34, (by simp [hb33]), (by first | omega | (simp only [List.length_append, b1_len, b2_len, binBy_len, List.length_nil]; omega))⟩
  refine wp_skip ?_
  exact hK31 _ _ ⟨l25, a25, c25, ((F.nil.cons (F.g 5 _ rfl)).cons (F.g 4 _ rfl)), H, hO25, (by simp [hb33]), (by first | omega | (simp only [List.length_append, b1_len, b2_len, binBy_len, List.length_nil]; omega))⟩
 clear F H hO25; obtain ⟨l30, a30, c30, F, H, hO30, hl30, hm30⟩ := hM
 refine wp_seq_k (fun K35 hK35 => gx_region ?_)
 iterate 2 (refine zd ?_; intro A F)
 refine wpList_nil (hK35 _ _ ?_)
 refine gx_ret ?_
 refine (show bodyPost _ Tryz.f67 RR Exit.ret _ _ from zr ?_)
 exact (by have hE : l30 = connB v p := (by unfold connB; rw [hl30, hl25, hl18]; simp only [List.nil_append, List.append_assoc, mqtt]); exact ⟨_, rfl, hE ▸ ⟨a30, c30, rfl, hO30⟩, H.k⟩)
theorem filtB_take (k : Int) (L : List Fi) (j : Nat) : (filtB k (L.take j)).length ≤ (filtB k L).length := by
 conv => rhs; rw [← List.take_append_drop j L, filtB_app]
 rw [List.length_append]; omega
theorem bytes_of {w w0 : World} {l m : List UInt8} {a : Option Addr} {c : Nat} (h : l = m) (hO : w.ownsRow w0.heap.size 5 1 (.slice a l.length c) l.length (B8 l)) (hk : Kept No w0 w) : ∃ u, Ending.returned (.slice a l.length c) = .returned u ∧ OwnR w0 m u w ∧ Kept No w0 w := by
 subst h
 exact ⟨_, rfl, ⟨a, c, rfl, hO⟩, hk⟩
theorem own_from {w0 w : World} {m : List UInt8} {f : Nat} {args : Array Value} (hk : w0.heap.size ≤ w.heap.size) (h : Calls Tryz.prog f args w fun e w' => ∃ u, e = .returned u ∧ OwnR w m u w' ∧ Kept No w w') : Calls Tryz.prog f args w fun e w' => ∃ u, e = .returned u ∧ OwnR w0 m u w' ∧ Kept No w w' :=
 h.mono fun e w' ⟨u, h1, ⟨a, c, h2, h3⟩, h4⟩ => ⟨u, h1, ⟨a, c, h2, og_base h3 hk⟩, h4⟩
theorem own_lit2 {w0 w : World} {M : List Bk} {b x y j : Nat} (H : Hp w0 w M) (hj : M[j]? = some ⟨b, 5, #[.int .u8 x, .int .u8 y]⟩) (hx : x ≤ 255) (hy : y ≤ 255) : w.ownsRow w0.heap.size 5 1 (.slice (some ⟨b, 0, none⟩) (by1 x ++ by1 y).length 2) (by1 x ++ by1 y).length (B8 (by1 x ++ by1 y)) := by
 have h := own_madeJ (k := 1) (m := 2) H hj rfl (by unfold maxLen; omega)
 unfold by1
 rw [B8_append, B8_byteOf (by omega) (by omega), B8_byteOf (by omega) (by omega)]
 exact h
theorem own_lit1 {w0 w : World} {M : List Bk} {b x j : Nat} (H : Hp w0 w M) (hj : M[j]? = some ⟨b, 5, #[.int .u8 x]⟩) (hx : x ≤ 255) : w.ownsRow w0.heap.size 5 1 (.slice (some ⟨b, 0, none⟩) (by1 x).length 1) (by1 x).length (B8 (by1 x)) := by
 have h := own_madeJ (k := 1) (m := 1) H hj rfl (by unfold maxLen; omega)
 unfold by1
 rw [B8_byteOf (by omega) (by omega)]
 exact h
set_option maxHeartbeats 8000000 in
theorem behind8_any (v : Int) (p : Pk) (s : Sl) (w : World) (hp : p.At s w) (hF : Fit p) (hS : Sm v p) (hN : Small p) (hcn : s.ca = none → p.codes.length = 0 ∧ s.cc = 0) :
  Calls Tryz.prog 27 #[.int .i64 v, p.val s] w fun e w' => ∃ u, e = .returned u ∧ OwnR w (behB v p) u w' ∧ Kept No w w' := by
 have e1 := hS.s; have e2 := hS.w; have e3 := hS.sum; have e5 := hS.f; have e7 := hN.nf
 let RR : Ending → World → Prop := fun e w' => ∃ u, e = .returned u ∧ OwnR w (behB v p) u w' ∧ Kept No w w'
 go_enter Tryz.func27, Tryz.ntmps27
 generalize hA : ({ tmps := _, defers := [] } : Act) = A
 have F : Fr A 119 [(1, (Pk.val p s)), (0, (.int .i64 v))] := by rw [← hA]; exact (Fr.cons (i := 1) (v := (Pk.val p s)) (Fr.cons (i := 0) (v := (.int .i64 v)) (Fr.nil0 rfl rfl) rfl) rfl)
 clear hA; have H := Hp.start w
 refine wp_seq_k (fun K1 hK1 => gx_region ?_)
 refine hz_new (c := (Pk.cells p s)) (t := 27) F H rfl (ex_box rfl (F.e rfl) (gx_box _ _)) ?_; clear F A; intro b2 W A hk hN H9 F; clear H; have H := H9; clear H9
 clear hk hN
 refine zd ?_; intro A F
 refine wpList_nil (hK1 _ _ ?_)
 refine wp_seq_k (fun K3 hK3 => gx_region ?_)
 refine zd ?_; intro A F
 refine wpList_nil (hK3 _ _ ?_)
 refine wp_seq_k (fun K4 hK4 => ?_)
 refine wp_seq_k (fun K5 hK5 => gx_region ?_)
 iterate 2 (refine zd ?_; intro A F)
 refine wpList_nil (hK5 _ _ ?_)
 refine wp_block ?_
 refine wp_seq_k (fun K6 hK6 => gx_region ?_)
 refine zb (rn_eql) ?_; intro A F
 refine zd ?_; intro A F
 refine wpList_nil (hK6 _ _ ?_)
 refine zc (fun hb7 => ?_) (fun hb7 => ?_)
 ·skip
  refine wp_seq_k (fun K8 hK8 => gx_region ?_)
  refine zd ?_; intro A F
  refine hz_do F rfl (ex_load rfl (F.e rfl) (gl_agg ((Pk.cells p s)) rfl (ga_27 _) (gs_27 _) (fun i => H.cs 0 rfl i))) ?_; intro A F
  refine hz_call (R := OwnR w (connB v p)) F H rfl (ex_call rfl rfl (gx_l1 (F.e rfl) (gx_l1 (F.e rfl) gx_l0)) fn_67) (own_from H.size (rconnect8_any v p s _ (hp.kept H.k) hF hS hN hcn)) ?_; clear F H A; intro vv W A hR hk H F; obtain ⟨a9, c9, rfl, hO9⟩ := hR
  clear hk
  refine zd ?_; intro A F
  refine wpList_nil (hK8 _ _ ?_)
  refine gx_ret ?_
  refine (show bodyPost _ Tryz.f27 RR Exit.ret _ _ from zr ?_)
  exact (bytes_of (by rw [behB_1 (by have := of_decide_eq_true hb7; omega)] <;> first | rfl | ((try unfold publB); simp only [List.nil_append, List.append_assoc]; done)) hO9 H.k)
 refine wp_seq_k (fun K10 hK10 => gx_region ?_)
 refine zb (rn_eql) ?_; intro A F
 refine zd ?_; intro A F
 refine wpList_nil (hK10 _ _ ?_)
 refine zc (fun hb11 => ?_) (fun hb11 => ?_)
 ·skip
  refine wp_seq_k (fun K12 hK12 => ?_)
  refine wp_region_held_drew (S := fun wx => Hp _ wx _) (by kernel_rfl) H.drew (fun H9 => ?_); clear H; have H := H9; clear H9
  generalize World.drew _ = W at *
  refine td 0 ?_; intro A F
  refine td 1 ?_; intro A F
  refine td 2 ?_; intro A F
  refine td 5 ?_; intro A F
  refine td 6 ?_; intro A F
  refine td 8 ?_; intro A F
  refine td 9 ?_; intro A F
  refine hb_one (i := 3) (by kernel_rfl) (hb_callk (i := 3) F rfl rfl (ex_call rfl rfl (gx_l1 (F.e rfl) (gx_l1 gx_evc gx_l0)) fn_50) (bit_any p.present 1 _) (fun _ hk => (H.kept hk)) ?_); clear F A; intro W A hk _ F; replace H := H.kept hk
  clear hk
  refine hzh_do (v := (.int .u8 ((bitN p.present 1 : Int)))) (i := 4) F rfl rfl (by kernel_rfl) (fun _ _ _ h => h) (H) (fun wz H => (ex_conv rfl (F.e rfl) (cvN8 (bitN p.present 1) _ (by have := bitN_le p.present 1; omega)))) ?_; intro A F
  refine hb_one (i := 7) (by kernel_rfl) (hb_blk (i := 7) (c := #[(.int .u8 ((bitN p.present 1 : Int))), (.int .u8 ((p.code : Int)))]) (t := 5) (fun b9 => .slice (some ⟨b9, 0, none⟩) 2 2) F H rfl rfl (ex_buildSlice rfl (gx_p1 (F.e rfl) (gx_p1 (F.e rfl) gx_p0)) (by kernel_rfl)) (fun _ _ H => H.tl) ?_); clear F A; intro b14 W A hk hN H9 F; clear H; have H := H9; clear H9
  clear hk hN
  have hO15l := own_lit2 H (j := 0) rfl (by have := bitN_le p.present 1; have := hF.code; omega) (by have := bitN_le p.present 1; have := hF.code; omega)
  refine hb_one (i := 10) (by kernel_rfl) (hb_call (i := 10) (R := OwnR w ((by1 (bitN p.present 1) ++ by1 p.code) ++ secB v p.props)) F rfl rfl (ex_call rfl rfl (gx_l1 (F.e rfl) (gx_l1 (F.e rfl) (gx_l1 (F.e rfl) gx_l0))) fn_68) (rsection_any w v p.props s.pa s.pc ((some ⟨b14, 0, none⟩)) 2 (by1 (bitN p.present 1) ++ by1 p.code) hO15l hS.ri.hv (hp.kept H.k).hp (by have := hF.few.hp; have := hN.np; omega) hF.wf.p hS.okp (by first | omega | (simp only [List.length_append, b1_len, b2_len, binBy_len, List.length_nil]; omega)) H.size) (fun _ hk => (H.kept hk).tl) ?_); clear F A; intro vv W A hR hk _ F; replace H := H.kept hk; obtain ⟨a15, c15, rfl, hO15⟩ := hR
  clear hk
  refine hzh_do (i := 11) F rfl rfl (by kernel_rfl) (fun _ _ _ h => h) (H.tl) (fun wz H => (ex_assign rfl (F.e rfl))) ?_; intro A F
  refine wpAnyH_done (by kernel_rfl) ?_ _
  refine hK12 _ _ ?_
  refine gx_ret ?_
  refine (show bodyPost _ Tryz.f27 RR Exit.ret _ _ from zr ?_)
  exact (bytes_of (by rw [behB_2 (by have := of_decide_eq_true hb11; omega)] <;> first | rfl | ((try unfold publB); simp only [List.nil_append, List.append_assoc]; done)) hO15 H.k)
 refine wp_seq_k (fun K16 hK16 => gx_region ?_)
 refine zb (rn_eql) ?_; intro A F
 refine zd ?_; intro A F
 refine wpList_nil (hK16 _ _ ?_)
 refine zc (fun hb17 => ?_) (fun hb17 => ?_)
 ·skip
  refine wp_seq_k (fun K18 hK18 => gx_region ?_)
  iterate 2 (refine zd ?_; intro A F)
  refine hz_call (R := OwnR w (([] : List UInt8) ++ binBy p.topic)) F H rfl (ex_call rfl rfl (gx_l1 gx_evc (gx_l1 (F.e rfl) gx_l0)) fn_69) (lays_ownR H.size (refbinX none 0 ([] : List UInt8) p.topic _ (by exact hS.ri.topic) (.nil _ _) (fun _ => ⟨rfl, rfl⟩) (by first | omega | (simp only [List.length_append, b1_len, b2_len, binBy_len, List.length_nil]; omega)))) ?_; clear F H A; intro vv W A hR hk H F; obtain ⟨a19, c19, rfl, hO19⟩ := hR
  clear hk
  refine zd ?_; intro A F
  refine wpList_nil (hK18 _ _ ?_)
  refine hz_cut (fun A W => ∃ l20 : List UInt8, ∃ a20 : Option Addr, ∃ c20 : Nat, Fr A 119 [(0, (.int .i64 v)), (3, (.pointer (some ⟨b2, 0, none⟩))), (4, (.slice none 0 0)), (5, (.slice a20 l20.length c20)), (8, (.int .i64 p.kind))] ∧ Hp w W [⟨b2, 27, (Pk.cells p s)⟩] ∧ W.ownsRow w.heap.size 5 1 (.slice a20 l20.length c20) l20.length ((B8 l20)) ∧ (l20 = (([] : List UInt8) ++ binBy p.topic) ++ (if p.qos = 0 then [] else by2 p.id)) ∧ (l20.length ≤ 3100)) (fun A W hM => ?_) (fun K21 hK21 => ?_)
  rotate_left
  ·skip
   refine wp_seq_k (fun K22 hK22 => gx_region ?_)
   iterate 2 (refine zd ?_; intro A F)
   refine zb (rn_gtrN (i := p.qos) (j := 0)) ?_; intro A F
   refine wpList_nil (hK22 _ _ ?_)
   refine zc (fun hb23 => ?_) (fun hb23 => ?_)
   ·skip
    replace F := (((((F.nil.cons (F.g 8 _ rfl)).cons (F.g 5 _ rfl)).cons (F.g 4 _ rfl)).cons (F.g 3 _ rfl)).cons (F.g 0 _ rfl))
    refine gx_region ?_
    iterate 3 (refine zd ?_; intro A F)
    refine hz_do (v := (.int .u64 ((p.id : Int)))) F rfl (ex_conv rfl (F.e rfl) (cv16_64 p.id _ (by have := hF.id; have := hF.keep; omega))) ?_; intro A F
    refine hz_call (R := OwnR w ((([] : List UInt8) ++ binBy p.topic) ++ by2 p.id)) F H rfl (ex_call rfl rfl (gx_l1 (F.e rfl) (gx_l1 (F.e rfl) (gx_l1 gx_evc gx_l0))) fn_70) (lays_ownR H.size (refNum2 a19 c19 (([] : List UInt8) ++ binBy p.topic) p.id _ (by have := hF.id; have := hF.keep; omega) (own_row hO19).1 (own_row hO19).2 (by first | omega | (simp only [List.length_append, b1_len, b2_len, binBy_len, List.length_nil]; omega)))) ?_; clear F H A; intro vv W A hR hk H F; obtain ⟨a24, c24, rfl, hO24⟩ := hR
    clear hk
    refine zd ?_; intro A F
    refine wpList_nil ?_
    exact hK21 _ _ ⟨((([] : List UInt8) ++ binBy p.topic) ++ by2 p.id), a24, c24, (((((F.nil.cons (F.g 8 _ rfl)).cons (F.g 5 _ rfl)).cons (F.g 4 _ rfl)).cons (F.g 3 _ rfl)).cons (F.g 0 _ rfl)), H, hO24, (by have h9 := hb23; simp at h9; simp; omega), (by first | omega | (simp only [List.length_append, b1_len, b2_len, binBy_len, List.length_nil]; omega))⟩
   replace F := (((((F.nil.cons (F.g 8 _ rfl)).cons (F.g 5 _ rfl)).cons (F.g 4 _ rfl)).cons (F.g 3 _ rfl)).cons (F.g 0 _ rfl))
   refine wp_skip ?_
   exact hK21 _ _ ⟨(([] : List UInt8) ++ binBy p.topic), a19, c19, (((((F.nil.cons (F.g 8 _ rfl)).cons (F.g 5 _ rfl)).cons (F.g 4 _ rfl)).cons (F.g 3 _ rfl)).cons (F.g 0 _ rfl)), H, hO19, (by have h9 := hb23; simp at h9; simp [h9]), (by first | omega | (simp only [List.length_append, b1_len, b2_len, binBy_len, List.length_nil]; omega))⟩
  clear F H hO19; obtain ⟨l20, a20, c20, F, H, hO20, hl20, hm20⟩ := hM
  refine wp_seq_k (fun K25 hK25 => ?_)
  refine wp_region_held_drew (S := fun wx => Hp _ wx _) (by kernel_rfl) H.drew (fun H9 => ?_); clear H; have H := H9; clear H9
  replace hO20 := og_kept hO20 (Kept.refl No _).drew
  generalize World.drew _ = W at *
  refine td 0 ?_; intro A F
  refine td 1 ?_; intro A F
  refine td 2 ?_; intro A F
  refine td 3 ?_; intro A F
  refine td 5 ?_; intro A F
  refine td 6 ?_; intro A F
  refine hb_one (i := 4) (by kernel_rfl) (hb_call (i := 4) (R := OwnR w (l20 ++ secB v p.props)) F rfl rfl (ex_call rfl rfl (gx_l1 (F.e rfl) (gx_l1 (F.e rfl) (gx_l1 (F.e rfl) gx_l0))) fn_68) (rsection_any w v p.props s.pa s.pc a20 c20 l20 hO20 hS.ri.hv (hp.kept H.k).hp (by have := hF.few.hp; have := hN.np; omega) hF.wf.p hS.okp (by first | omega | (simp only [List.length_append, b1_len, b2_len, binBy_len, List.length_nil]; omega)) H.size) (fun _ hk => (H.kept hk)) ?_); clear F A; intro vv W A hR hk _ F; replace H := H.kept hk; obtain ⟨a26, c26, rfl, hO26⟩ := hR
  clear hk
  obtain ⟨v9, W9, hrun, hO9, hg⟩ := app_str (l := (l20 ++ secB v p.props)) hO26 p.load (by first | omega | (simp only [List.length_append, b1_len, b2_len, binBy_len, List.length_nil]; omega)) H.size
  have hkS := kept_grown hg; obtain ⟨a27, c27, hv9⟩ := own_slice hO9; subst hv9
  replace H := Hp.grown H hO26 hkS (fa1 (sv_type hO26 (H.b.at_ (j := 0) rfl).1 (show 27 ≠ 5 by decide)) fa0)
  refine hb_one (i := 7) (by kernel_rfl) (hb_new (i := 7) F rfl rfl (ex_builtin rfl (gx_l1 (F.e rfl) (gx_l1 (F.e rfl) gx_l0)) (fun cs => by simp only [builtin]; exact gx_val hrun)) (H) ?_); intro A F
  clear hrun hg hkS; clear hO26; have hO27x := hO9; clear hO9; generalize W9 = W at *
  refine td 8 ?_; intro A F
  refine wpAnyH_done (by kernel_rfl) ?_ _
  refine hK25 _ _ ?_
  refine gx_ret ?_
  refine (show bodyPost _ Tryz.f27 RR Exit.ret _ _ from zr ?_)
  exact (bytes_of (by rw [hl20]; rw [behB_3 (by have := of_decide_eq_true hb17; omega)] <;> first | rfl | ((try unfold publB); simp only [List.nil_append, List.append_assoc]; done)) hO27x H.k)
 refine wp_seq_k (fun K28 hK28 => ?_)
 refine wp_seq_k (fun K29 hK29 => gx_region ?_)
 refine zb (rn_eql) ?_; intro A F
 refine zd ?_; intro A F
 refine wpList_nil (hK29 _ _ ?_)
 refine zc (fun hb30 => ?_) (fun hb30 => ?_)
 ·skip
  refine wp_skip (hK28 _ _ ?_)
  refine wp_cond_true ((F.e rfl).trans (congrArg Value.bool hb30)) ?_
  refine wp_seq_k (fun K31 hK31 => ?_)
  refine wp_region_held_drew (S := fun wx => Hp _ wx _) (by kernel_rfl) H.drew (fun H9 => ?_); clear H; have H := H9; clear H9
  generalize World.drew _ = W at *
  refine td 0 ?_; intro A F
  refine td 1 ?_; intro A F
  refine td 2 ?_; intro A F
  refine hzh_do (v := (.int .u64 ((p.id : Int)))) (i := 3) F rfl rfl (by kernel_rfl) (fun _ _ _ h => h) (H) (fun wz H => (ex_conv rfl (F.e rfl) (cv16_64 p.id _ (by have := hF.id; have := hF.keep; omega)))) ?_; intro A F
  refine hzh_do (i := 5) F rfl rfl (by kernel_rfl) (fun _ _ _ h => h) (H) (fun wz H => (ex_load rfl (F.e rfl) (gl_agg ((Pk.cells p s)) rfl (ga_27 _) (gs_27 _) (fun i => H.cs 0 rfl i)))) ?_; intro A F
  refine hb_one (i := 4) (by kernel_rfl) (hb_call (i := 4) (R := OwnR w (([] : List UInt8) ++ by2 p.id)) F rfl rfl (ex_call rfl rfl (gx_l1 gx_evc (gx_l1 (F.e rfl) (gx_l1 gx_evc gx_l0))) fn_70) (lays_ownR H.size (refNum2 none 0 ([] : List UInt8) p.id _ (by have := hF.id; have := hF.keep; omega) (.nil _ _) (fun _ => ⟨rfl, rfl⟩) (by first | omega | (simp only [List.length_append, b1_len, b2_len, binBy_len, List.length_nil]; omega)))) (fun _ hk => (H.kept hk)) ?_); clear F A; intro vv W A hR hk _ F; replace H := H.kept hk; obtain ⟨a32, c32, rfl, hO32⟩ := hR
  clear hk
  refine hb_one (i := 6) (by kernel_rfl) (hb_callR (i := 6) (CoR w _ (.slice a32 ((([] : List UInt8) ++ by2 p.id)).length c32) ((([] : List UInt8) ++ by2 p.id) ++ shortB v p)) F rfl rfl (ex_call rfl rfl (gx_l1 (F.e rfl) (gx_l1 (F.e rfl) (gx_l1 (F.e rfl) gx_l0))) fn_71) (rcode_any w _ ⟨H.k, trivial⟩ v p s a32 c32 ((([] : List UInt8) ++ by2 p.id)) hO32 hp hF hS hN (by first | omega | (simp only [List.length_append, b1_len, b2_len, binBy_len, List.length_nil]; omega))) (fun _ _ h => Hp.grown H hO32 h.2 (fa1 (sv_type hO32 (H.b.at_ (j := 0) rfl).1 (show 27 ≠ 5 by decide)) fa0)) (fun _ H => H) ?_); clear F H A; intro vv W A hR H F; obtain ⟨⟨a33, c33, rfl, hO33⟩, -⟩ := hR
  refine td 7 ?_; intro A F
  refine wpAnyH_done (by kernel_rfl) ?_ _
  refine hK31 _ _ ?_
  refine gx_ret ?_
  refine (show bodyPost _ Tryz.f27 RR Exit.ret _ _ from zr ?_)
  exact (bytes_of (by rw [behB_4 (by have := of_decide_eq_true hb30; omega)] <;> first | rfl | ((try unfold publB); simp only [List.nil_append, List.append_assoc]; done)) hO33 H.k)
 refine wp_seq_k (fun K34 hK34 => gx_region ?_)
 refine zb (rn_eql) ?_; intro A F
 refine zd ?_; intro A F
 refine wpList_nil (hK34 _ _ ?_)
 refine zc (fun hb35 => ?_) (fun hb35 => ?_)
 ·skip
  refine wp_skip (hK28 _ _ ?_)
  refine wp_cond_true ((F.e rfl).trans (congrArg Value.bool hb35)) ?_
  refine wp_seq_k (fun K36 hK36 => ?_)
  refine wp_region_held_drew (S := fun wx => Hp _ wx _) (by kernel_rfl) H.drew (fun H9 => ?_); clear H; have H := H9; clear H9
  generalize World.drew _ = W at *
  refine td 0 ?_; intro A F
  refine td 1 ?_; intro A F
  refine td 2 ?_; intro A F
  refine hzh_do (v := (.int .u64 ((p.id : Int)))) (i := 3) F rfl rfl (by kernel_rfl) (fun _ _ _ h => h) (H) (fun wz H => (ex_conv rfl (F.e rfl) (cv16_64 p.id _ (by have := hF.id; have := hF.keep; omega)))) ?_; intro A F
  refine hzh_do (i := 5) F rfl rfl (by kernel_rfl) (fun _ _ _ h => h) (H) (fun wz H => (ex_load rfl (F.e rfl) (gl_agg ((Pk.cells p s)) rfl (ga_27 _) (gs_27 _) (fun i => H.cs 0 rfl i)))) ?_; intro A F
  refine hb_one (i := 4) (by kernel_rfl) (hb_call (i := 4) (R := OwnR w (([] : List UInt8) ++ by2 p.id)) F rfl rfl (ex_call rfl rfl (gx_l1 gx_evc (gx_l1 (F.e rfl) (gx_l1 gx_evc gx_l0))) fn_70) (lays_ownR H.size (refNum2 none 0 ([] : List UInt8) p.id _ (by have := hF.id; have := hF.keep; omega) (.nil _ _) (fun _ => ⟨rfl, rfl⟩) (by first | omega | (simp only [List.length_append, b1_len, b2_len, binBy_len, List.length_nil]; omega)))) (fun _ hk => (H.kept hk)) ?_); clear F A; intro vv W A hR hk _ F; replace H := H.kept hk; obtain ⟨a37, c37, rfl, hO37⟩ := hR
  clear hk
  refine hb_one (i := 6) (by kernel_rfl) (hb_callR (i := 6) (CoR w _ (.slice a37 ((([] : List UInt8) ++ by2 p.id)).length c37) ((([] : List UInt8) ++ by2 p.id) ++ shortB v p)) F rfl rfl (ex_call rfl rfl (gx_l1 (F.e rfl) (gx_l1 (F.e rfl) (gx_l1 (F.e rfl) gx_l0))) fn_71) (rcode_any w _ ⟨H.k, trivial⟩ v p s a37 c37 ((([] : List UInt8) ++ by2 p.id)) hO37 hp hF hS hN (by first | omega | (simp only [List.length_append, b1_len, b2_len, binBy_len, List.length_nil]; omega))) (fun _ _ h => Hp.grown H hO37 h.2 (fa1 (sv_type hO37 (H.b.at_ (j := 0) rfl).1 (show 27 ≠ 5 by decide)) fa0)) (fun _ H => H) ?_); clear F H A; intro vv W A hR H F; obtain ⟨⟨a38, c38, rfl, hO38⟩, -⟩ := hR
  refine td 7 ?_; intro A F
  refine wpAnyH_done (by kernel_rfl) ?_ _
  refine hK36 _ _ ?_
  refine gx_ret ?_
  refine (show bodyPost _ Tryz.f27 RR Exit.ret _ _ from zr ?_)
  exact (bytes_of (by rw [behB_4 (by have := of_decide_eq_true hb35; omega)] <;> first | rfl | ((try unfold publB); simp only [List.nil_append, List.append_assoc]; done)) hO38 H.k)
 refine wp_seq_k (fun K39 hK39 => gx_region ?_)
 refine zb (rn_eql) ?_; intro A F
 refine zd ?_; intro A F
 refine wpList_nil (hK39 _ _ ?_)
 refine zc (fun hb40 => ?_) (fun hb40 => ?_)
 ·skip
  refine wp_skip (hK28 _ _ ?_)
  refine wp_cond_true ((F.e rfl).trans (congrArg Value.bool hb40)) ?_
  replace F := (((((F.nil.cons (F.g 8 _ rfl)).cons (F.g 5 _ rfl)).cons (F.g 4 _ rfl)).cons (F.g 3 _ rfl)).cons (F.g 0 _ rfl))
  refine wp_seq_k (fun K41 hK41 => ?_)
  refine wp_region_held_drew (S := fun wx => Hp _ wx _) (by kernel_rfl) H.drew (fun H9 => ?_); clear H; have H := H9; clear H9
  generalize World.drew _ = W at *
  refine td 0 ?_; intro A F
  refine td 1 ?_; intro A F
  refine td 2 ?_; intro A F
  refine hzh_do (v := (.int .u64 ((p.id : Int)))) (i := 3) F rfl rfl (by kernel_rfl) (fun _ _ _ h => h) (H) (fun wz H => (ex_conv rfl (F.e rfl) (cv16_64 p.id _ (by have := hF.id; have := hF.keep; omega)))) ?_; intro A F
  refine hzh_do (i := 5) F rfl rfl (by kernel_rfl) (fun _ _ _ h => h) (H) (fun wz H => (ex_load rfl (F.e rfl) (gl_agg ((Pk.cells p s)) rfl (ga_27 _) (gs_27 _) (fun i => H.cs 0 rfl i)))) ?_; intro A F
  refine hb_one (i := 4) (by kernel_rfl) (hb_call (i := 4) (R := OwnR w (([] : List UInt8) ++ by2 p.id)) F rfl rfl (ex_call rfl rfl (gx_l1 gx_evc (gx_l1 (F.e rfl) (gx_l1 gx_evc gx_l0))) fn_70) (lays_ownR H.size (refNum2 none 0 ([] : List UInt8) p.id _ (by have := hF.id; have := hF.keep; omega) (.nil _ _) (fun _ => ⟨rfl, rfl⟩) (by first | omega | (simp only [List.length_append, b1_len, b2_len, binBy_len, List.length_nil]; omega)))) (fun _ hk => (H.kept hk)) ?_); clear F A; intro vv W A hR hk _ F; replace H := H.kept hk; obtain ⟨a42, c42, rfl, hO42⟩ := hR
  clear hk
  refine hb_one (i := 6) (by kernel_rfl) (hb_callR (i := 6) (CoR w _ (.slice a42 ((([] : List UInt8) ++ by2 p.id)).length c42) ((([] : List UInt8) ++ by2 p.id) ++ shortB v p)) F rfl rfl (ex_call rfl rfl (gx_l1 (F.e rfl) (gx_l1 (F.e rfl) (gx_l1 (F.e rfl) gx_l0))) fn_71) (rcode_any w _ ⟨H.k, trivial⟩ v p s a42 c42 ((([] : List UInt8) ++ by2 p.id)) hO42 hp hF hS hN (by first | omega | (simp only [List.length_append, b1_len, b2_len, binBy_len, List.length_nil]; omega))) (fun _ _ h => Hp.grown H hO42 h.2 (fa1 (sv_type hO42 (H.b.at_ (j := 0) rfl).1 (show 27 ≠ 5 by decide)) fa0)) (fun _ H => H) ?_); clear F H A; intro vv W A hR H F; obtain ⟨⟨a43, c43, rfl, hO43⟩, -⟩ := hR
  refine td 7 ?_; intro A F
  refine wpAnyH_done (by kernel_rfl) ?_ _
  refine hK41 _ _ ?_
  refine gx_ret ?_
  refine (show bodyPost _ Tryz.f27 RR Exit.ret _ _ from zr ?_)
  exact (bytes_of (by rw [behB_4 (by have := of_decide_eq_true hb40; omega)] <;> first | rfl | ((try unfold publB); simp only [List.nil_append, List.append_assoc]; done)) hO43 H.k)
 refine gx_region ?_
 refine zb (rn_eql) ?_; intro A F
 refine zd ?_; intro A F
 refine wpList_nil (hK28 _ _ ?_)
 refine zc (fun hb44 => ?_) (fun hb44 => ?_)
 ·skip
  replace F := (((((F.nil.cons (F.g 8 _ rfl)).cons (F.g 5 _ rfl)).cons (F.g 4 _ rfl)).cons (F.g 3 _ rfl)).cons (F.g 0 _ rfl))
  refine wp_seq_k (fun K45 hK45 => ?_)
  refine wp_region_held_drew (S := fun wx => Hp _ wx _) (by kernel_rfl) H.drew (fun H9 => ?_); clear H; have H := H9; clear H9
  generalize World.drew _ = W at *
  refine td 0 ?_; intro A F
  refine td 1 ?_; intro A F
  refine td 2 ?_; intro A F
  refine hzh_do (v := (.int .u64 ((p.id : Int)))) (i := 3) F rfl rfl (by kernel_rfl) (fun _ _ _ h => h) (H) (fun wz H => (ex_conv rfl (F.e rfl) (cv16_64 p.id _ (by have := hF.id; have := hF.keep; omega)))) ?_; intro A F
  refine hzh_do (i := 5) F rfl rfl (by kernel_rfl) (fun _ _ _ h => h) (H) (fun wz H => (ex_load rfl (F.e rfl) (gl_agg ((Pk.cells p s)) rfl (ga_27 _) (gs_27 _) (fun i => H.cs 0 rfl i)))) ?_; intro A F
  refine hb_one (i := 4) (by kernel_rfl) (hb_call (i := 4) (R := OwnR w (([] : List UInt8) ++ by2 p.id)) F rfl rfl (ex_call rfl rfl (gx_l1 gx_evc (gx_l1 (F.e rfl) (gx_l1 gx_evc gx_l0))) fn_70) (lays_ownR H.size (refNum2 none 0 ([] : List UInt8) p.id _ (by have := hF.id; have := hF.keep; omega) (.nil _ _) (fun _ => ⟨rfl, rfl⟩) (by first | omega | (simp only [List.length_append, b1_len, b2_len, binBy_len, List.length_nil]; omega)))) (fun _ hk => (H.kept hk)) ?_); clear F A; intro vv W A hR hk _ F; replace H := H.kept hk; obtain ⟨a46, c46, rfl, hO46⟩ := hR
  clear hk
  refine hb_one (i := 6) (by kernel_rfl) (hb_callR (i := 6) (CoR w _ (.slice a46 ((([] : List UInt8) ++ by2 p.id)).length c46) ((([] : List UInt8) ++ by2 p.id) ++ shortB v p)) F rfl rfl (ex_call rfl rfl (gx_l1 (F.e rfl) (gx_l1 (F.e rfl) (gx_l1 (F.e rfl) gx_l0))) fn_71) (rcode_any w _ ⟨H.k, trivial⟩ v p s a46 c46 ((([] : List UInt8) ++ by2 p.id)) hO46 hp hF hS hN (by first | omega | (simp only [List.length_append, b1_len, b2_len, binBy_len, List.length_nil]; omega))) (fun _ _ h => Hp.grown H hO46 h.2 (fa1 (sv_type hO46 (H.b.at_ (j := 0) rfl).1 (show 27 ≠ 5 by decide)) fa0)) (fun _ H => H) ?_); clear F H A; intro vv W A hR H F; obtain ⟨⟨a47, c47, rfl, hO47⟩, -⟩ := hR
  refine td 7 ?_; intro A F
  refine wpAnyH_done (by kernel_rfl) ?_ _
  refine hK45 _ _ ?_
  refine gx_ret ?_
  refine (show bodyPost _ Tryz.f27 RR Exit.ret _ _ from zr ?_)
  exact (bytes_of (by rw [behB_4 (by have := of_decide_eq_true hb44; omega)] <;> first | rfl | ((try unfold publB); simp only [List.nil_append, List.append_assoc]; done)) hO47 H.k)
 replace F := (((((F.nil.cons (F.g 8 _ rfl)).cons (F.g 5 _ rfl)).cons (F.g 4 _ rfl)).cons (F.g 3 _ rfl)).cons (F.g 0 _ rfl))
 refine wp_seq_k (fun K48 hK48 => ?_)
 refine wp_seq_k (fun K49 hK49 => gx_region ?_)
 refine zb (rn_eql) ?_; intro A F
 refine zd ?_; intro A F
 refine wpList_nil (hK49 _ _ ?_)
 refine zc (fun hb50 => ?_) (fun hb50 => ?_)
 ·skip
  refine wp_skip (hK48 _ _ ?_)
  refine wp_cond_true ((F.e rfl).trans (congrArg Value.bool hb50)) ?_
  refine wp_seq_k (fun K51 hK51 => ?_)
  refine wp_region_held_drew (S := fun wx => Hp _ wx _) (by kernel_rfl) H.drew (fun H9 => ?_); clear H; have H := H9; clear H9
  generalize World.drew _ = W at *
  refine td 0 ?_; intro A F
  refine td 1 ?_; intro A F
  refine td 2 ?_; intro A F
  refine hzh_do (v := (.int .u64 ((p.id : Int)))) (i := 3) F rfl rfl (by kernel_rfl) (fun _ _ _ h => h) (H) (fun wz H => (ex_conv rfl (F.e rfl) (cv16_64 p.id _ (by have := hF.id; have := hF.keep; omega)))) ?_; intro A F
  refine td 5 ?_; intro A F
  refine td 6 ?_; intro A F
  refine hb_one (i := 4) (by kernel_rfl) (hb_call (i := 4) (R := OwnR w (([] : List UInt8) ++ by2 p.id)) F rfl rfl (ex_call rfl rfl (gx_l1 gx_evc (gx_l1 (F.e rfl) (gx_l1 gx_evc gx_l0))) fn_70) (lays_ownR H.size (refNum2 none 0 ([] : List UInt8) p.id _ (by have := hF.id; have := hF.keep; omega) (.nil _ _) (fun _ => ⟨rfl, rfl⟩) (by first | omega | (simp only [List.length_append, b1_len, b2_len, binBy_len, List.length_nil]; omega)))) (fun _ hk => (H.kept hk)) ?_); clear F A; intro vv W A hR hk _ F; replace H := H.kept hk; obtain ⟨a52, c52, rfl, hO52⟩ := hR
  clear hk
  refine hb_one (i := 7) (by kernel_rfl) (hb_call (i := 7) (R := OwnR w ((([] : List UInt8) ++ by2 p.id) ++ secB v p.props)) F rfl rfl (ex_call rfl rfl (gx_l1 (F.e rfl) (gx_l1 (F.e rfl) (gx_l1 (F.e rfl) gx_l0))) fn_68) (rsection_any w v p.props s.pa s.pc a52 c52 (([] : List UInt8) ++ by2 p.id) hO52 hS.ri.hv (hp.kept H.k).hp (by have := hF.few.hp; have := hN.np; omega) hF.wf.p hS.okp (by first | omega | (simp only [List.length_append, b1_len, b2_len, binBy_len, List.length_nil]; omega)) H.size) (fun _ hk => (H.kept hk)) ?_); clear F A; intro vv W A hR hk _ F; replace H := H.kept hk; obtain ⟨a53, c53, rfl, hO53⟩ := hR
  clear hk
  refine td 8 ?_; intro A F
  refine wpAnyH_done (by kernel_rfl) ?_ _
  refine hK51 _ _ ?_
  refine wp_seq_k (fun K54 hK54 => ?_)
  refine wp_seq_k (fun K55 hK55 => gx_region ?_)
  refine zd ?_; intro A F
  refine wpList_nil (hK55 _ _ ?_)
  refine wp_block ?_
  refine hz_loop (fun (j : Nat) A W => ∃ l : List UInt8, ∃ a : Option Addr, ∃ c : Nat, Fr A 119 [(0, (.int .i64 v)), (3, (.pointer (some ⟨b2, 0, none⟩))), (4, (.slice none 0 0)), (5, (.slice a l.length c)), (6, (.int .i64 ((j : Int)))), (8, (.int .i64 p.kind))] ∧ Hp w W [⟨b2, 27, (Pk.cells p s)⟩] ∧ W.ownsRow w.heap.size 5 1 (.slice a l.length c) l.length ((B8 l)) ∧ (j ≤ p.filters.length) ∧ (l = ((([] : List UInt8) ++ by2 p.id) ++ secB v p.props) ++ filtB p.kind (p.filters.take j)) ∧ (l.length ≤ 30000)) (fun j => p.filters.length - j) 0 ⟨((([] : List UInt8) ++ by2 p.id) ++ secB v p.props), a53, c53, ((((((F.nil.cons (F.g 8 _ rfl)).cons (gx_is (F.g 6 _ rfl) (by rfl))).cons (gx_is (F.g 5 _ rfl) (by rfl))).cons (F.g 4 _ rfl)).cons (F.g 3 _ rfl)).cons (F.g 0 _ rfl)), H, hO53, by omega, by simp [filtB], by first | omega | (simp only [List.length_append, b1_len, b2_len, binBy_len, List.length_nil]; omega)⟩ (fun j A W hI J56 hJ56 => ?_)
  clear F H hO53; obtain ⟨l, a, c, F, H, hO, hj, hl, hm⟩ := hI
  refine wp_seq_k (fun K57 hK57 => ?_)
  refine wp_seq_k (fun K58 hK58 => gx_region ?_)
  iterate 3 (refine zd ?_; intro A F)
  refine hz_do F rfl (ex_len rfl (gx_l1 (F.e rfl) gx_l0) (rn_lens Tryz.underlying24)) ?_; intro A F
  refine zb (rn_lssN (i := j) (j := p.filters.length)) ?_; intro A F
  refine wpList_nil (hK58 _ _ ?_)
  refine zc (fun hb59 => ?_) (fun hb59 => ?_)
  ·skip
   refine wp_skip (hK57 _ _ ?_)
   refine wp_seq_k (fun K60 hK60 => ?_)
   refine wp_block ?_
   refine wp_seq_k (fun K61 hK61 => gx_region ?_)
   iterate 4 (refine zd ?_; intro A F)
   have hlt : j < p.filters.length := of_decide_eq_true hb59
   have hfm := List.getElem_mem hlt; have hf1 := hS.ri.filt _ hfm; have hf2 := hF.opt _ hfm
   obtain ⟨bf, of, ha0, hbl0, q0, q1⟩ := (hp.kept H.k).hf.filt hlt
   refine hz_do F rfl (ex_idxaddr rfl ((F.e rfl).trans (show _ = Value.slice (some ⟨bf, of, none⟩) p.filters.length s.fc from by first | (rw [← ha0]; done) | (rw [← ha0]; rfl))) (F.e rfl) (rn_idx Tryz.underlying24 (gs_83 _) hlt)) ?_; intro A F
   refine zd ?_; intro A F
   refine hz_do (v := (.string p.filters[j].text)) F rfl (ex_load rfl (F.e rfl) (gl_one (ag_9 _) q0)) ?_; intro A F
   refine hz_call (R := OwnR w (l ++ binBy p.filters[j].text)) F H rfl (ex_call rfl rfl (gx_l1 (F.e rfl) (gx_l1 (F.e rfl) gx_l0)) fn_69) (lays_ownR H.size (refbinX a c l p.filters[j].text _ (by exact hf1) (own_row hO).1 (own_row hO).2 (by first | omega | (simp only [List.length_append, b1_len, b2_len, binBy_len, List.length_nil]; omega)))) ?_; clear F H A; intro vv W A hR hk H F; obtain ⟨a62, c62, rfl, hO62⟩ := hR
   clear hk
   refine zd ?_; intro A F
   refine wpList_nil (hK61 _ _ ?_)
   refine wp_seq_k (fun K63 hK63 => gx_region ?_)
   iterate 2 (refine zd ?_; intro A F)
   refine zb (rn_eql) ?_; intro A F
   replace F := F.hd (congrArg Value.bool hb50)
   refine wpList_nil (hK63 _ _ ?_)
   refine wp_cond_true (F.e rfl) ?_
   refine gx_region ?_
   iterate 4 (refine zd ?_; intro A F)
   obtain ⟨bf, of, ha1, hbl1, q0, q1⟩ := (hp.kept H.k).hf.filt hlt
   refine hz_do F rfl (ex_idxaddr rfl ((F.e rfl).trans (show _ = Value.slice (some ⟨bf, of, none⟩) p.filters.length s.fc from by first | (rw [← ha1]; done) | (rw [← ha1]; rfl))) (F.e rfl) (rn_idx Tryz.underlying24 (gs_83 _) hlt)) ?_; intro A F
   refine zd ?_; intro A F
   refine hz_do (v := (.int .u8 ((p.filters[j].opt : Int)))) F rfl (ex_load rfl (F.e rfl) (gl_one (ag_5 _) q1)) ?_; intro A F
   refine hz_bs (c := #[(.int .u8 ((p.filters[j].opt : Int)))]) (t := 5) (m := 1) F H rfl (ex_buildSlice rfl (gx_p1 (F.e rfl) gx_p0) (by kernel_rfl)) ?_; clear F A; intro b64 W A hk hN H9 F; clear H; have H := H9; clear H9
   have hne_hO62_b64 := og_lt hO62 hN
   replace hO62 := og_kept hO62 hk
   clear hk hN
   obtain ⟨v9, W9, hrun, hO9, hg⟩ := app_bytes (l := (l ++ binBy p.filters[j].text)) hO62 (row_b1 (H.b.at_ (j := 0) rfl).1 (by have := hf2; omega)) (fun e => by cases e) (by first | omega | (simp only [List.length_append, b1_len, b2_len, binBy_len, List.length_nil]; omega)) H.size
   have hkS := kept_grown hg; obtain ⟨a65, c65, hv9⟩ := own_slice hO9; subst hv9
   refine hz_do F rfl (ex_builtin rfl (gx_l1 (F.e rfl) (gx_l1 (F.e rfl) gx_l0)) (fun cs => by simp only [builtin]; exact gx_val hrun)) ?_; intro A F
   replace H := Hp.grown H hO62 hkS (fa1 (sv_lt hne_hO62_b64) (fa1 (sv_type hO62 (H.b.at_ (j := 1) rfl).1 (show 27 ≠ 5 by decide)) fa0))
   clear hrun hg hkS; clear hO62; have hO65x := hO9; clear hO9; generalize W9 = W at *
   replace H := Hp.del [] H
   refine zd ?_; intro A F
   refine wpList_nil (hK60 _ _ ?_)
   refine gx_region ?_
   refine zd ?_; intro A F
   refine hz_do F rfl (ex_bin rfl (F.e rfl) gx_evc (rn_add (gx_wrap_i64 (by omega) (by omega)))) ?_; intro A F
   refine zd ?_; intro A F
   refine wpList_nil ?_
   have hlx : ((l ++ binBy p.filters[j].text) ++ (by1 p.filters[j].opt)) = ((([] : List UInt8) ++ by2 p.id) ++ secB v p.props) ++ filtB p.kind (p.filters.take (j + 1)) := by have h8 := of_decide_eq_true hb50; (try replace h8 : ¬ p.kind = 8 := by omega); rw [filtB_snoc hlt, hl]; first | (rw [if_pos h8]; simp only [List.append_assoc]; done) | (rw [if_neg h8]; simp only [List.append_assoc, List.append_nil]; done)
   exact hJ56 ((j + 1)) _ _ (by omega) ⟨((l ++ binBy p.filters[j].text) ++ (by1 p.filters[j].opt)), a65, c65, ((((((F.nil.cons (F.g 8 _ rfl)).cons (gx_is (F.g 6 _ rfl) (by simp))).cons (F.g 5 _ rfl)).cons (F.g 4 _ rfl)).cons (F.g 3 _ rfl)).cons (F.g 0 _ rfl)), H, hO65x, by omega, hlx, (by rw [hlx]; have h8 := filtB_take p.kind p.filters (j + 1); simp only [List.length_append, b2_len, List.length_nil]; omega)⟩
  refine wp_exit ?_
  refine hK54 _ _ ?_
  refine wp_seq_k (fun K66 hK66 => gx_region ?_)
  iterate 2 (refine zd ?_; intro A F)
  refine wpList_nil (hK66 _ _ ?_)
  refine gx_ret ?_
  refine (show bodyPost _ Tryz.f27 RR Exit.ret _ _ from zr ?_)
  exact (bytes_of (by rw [hl, List.take_of_length_le (by have h8 := of_decide_eq_false hb59; omega)]; rw [behB_8 (by have := of_decide_eq_true hb50; omega)] <;> first | rfl | ((try unfold publB); simp only [List.nil_append, List.append_assoc]; done)) hO H.k)
 refine gx_region ?_
 refine zb (rn_eql) ?_; intro A F
 refine zd ?_; intro A F
 refine wpList_nil (hK48 _ _ ?_)
 refine zc (fun hb67 => ?_) (fun hb67 => ?_)
 ·skip
  refine wp_seq_k (fun K68 hK68 => ?_)
  refine wp_region_held_drew (S := fun wx => Hp _ wx _) (by kernel_rfl) H.drew (fun H9 => ?_); clear H; have H := H9; clear H9
  generalize World.drew _ = W at *
  refine td 0 ?_; intro A F
  refine td 1 ?_; intro A F
  refine td 2 ?_; intro A F
  refine hzh_do (v := (.int .u64 ((p.id : Int)))) (i := 3) F rfl rfl (by kernel_rfl) (fun _ _ _ h => h) (H) (fun wz H => (ex_conv rfl (F.e rfl) (cv16_64 p.id _ (by have := hF.id; have := hF.keep; omega)))) ?_; intro A F
  refine td 5 ?_; intro A F
  refine td 6 ?_; intro A F
  refine hb_one (i := 4) (by kernel_rfl) (hb_call (i := 4) (R := OwnR w (([] : List UInt8) ++ by2 p.id)) F rfl rfl (ex_call rfl rfl (gx_l1 gx_evc (gx_l1 (F.e rfl) (gx_l1 gx_evc gx_l0))) fn_70) (lays_ownR H.size (refNum2 none 0 ([] : List UInt8) p.id _ (by have := hF.id; have := hF.keep; omega) (.nil _ _) (fun _ => ⟨rfl, rfl⟩) (by first | omega | (simp only [List.length_append, b1_len, b2_len, binBy_len, List.length_nil]; omega)))) (fun _ hk => (H.kept hk)) ?_); clear F A; intro vv W A hR hk _ F; replace H := H.kept hk; obtain ⟨a69, c69, rfl, hO69⟩ := hR
  clear hk
  refine hb_one (i := 7) (by kernel_rfl) (hb_call (i := 7) (R := OwnR w ((([] : List UInt8) ++ by2 p.id) ++ secB v p.props)) F rfl rfl (ex_call rfl rfl (gx_l1 (F.e rfl) (gx_l1 (F.e rfl) (gx_l1 (F.e rfl) gx_l0))) fn_68) (rsection_any w v p.props s.pa s.pc a69 c69 (([] : List UInt8) ++ by2 p.id) hO69 hS.ri.hv (hp.kept H.k).hp (by have := hF.few.hp; have := hN.np; omega) hF.wf.p hS.okp (by first | omega | (simp only [List.length_append, b1_len, b2_len, binBy_len, List.length_nil]; omega)) H.size) (fun _ hk => (H.kept hk)) ?_); clear F A; intro vv W A hR hk _ F; replace H := H.kept hk; obtain ⟨a70, c70, rfl, hO70⟩ := hR
  clear hk
  refine td 8 ?_; intro A F
  refine wpAnyH_done (by kernel_rfl) ?_ _
  refine hK68 _ _ ?_
  refine wp_seq_k (fun K71 hK71 => ?_)
  refine wp_seq_k (fun K72 hK72 => gx_region ?_)
  refine zd ?_; intro A F
  refine wpList_nil (hK72 _ _ ?_)
  refine wp_block ?_
  refine hz_loop (fun (j : Nat) A W => ∃ l : List UInt8, ∃ a : Option Addr, ∃ c : Nat, Fr A 119 [(0, (.int .i64 v)), (3, (.pointer (some ⟨b2, 0, none⟩))), (4, (.slice none 0 0)), (5, (.slice a l.length c)), (6, (.int .i64 ((j : Int)))), (8, (.int .i64 p.kind))] ∧ Hp w W [⟨b2, 27, (Pk.cells p s)⟩] ∧ W.ownsRow w.heap.size 5 1 (.slice a l.length c) l.length ((B8 l)) ∧ (j ≤ p.filters.length) ∧ (l = ((([] : List UInt8) ++ by2 p.id) ++ secB v p.props) ++ filtB p.kind (p.filters.take j)) ∧ (l.length ≤ 30000)) (fun j => p.filters.length - j) 0 ⟨((([] : List UInt8) ++ by2 p.id) ++ secB v p.props), a70, c70, ((((((F.nil.cons (F.g 8 _ rfl)).cons (gx_is (F.g 6 _ rfl) (by rfl))).cons (gx_is (F.g 5 _ rfl) (by rfl))).cons (F.g 4 _ rfl)).cons (F.g 3 _ rfl)).cons (F.g 0 _ rfl)), H, hO70, by omega, by simp [filtB], by first | omega | (simp only [List.length_append, b1_len, b2_len, binBy_len, List.length_nil]; omega)⟩ (fun j A W hI J73 hJ73 => ?_)
  clear F H hO70; obtain ⟨l, a, c, F, H, hO, hj, hl, hm⟩ := hI
  refine wp_seq_k (fun K74 hK74 => ?_)
  refine wp_seq_k (fun K75 hK75 => gx_region ?_)
  iterate 3 (refine zd ?_; intro A F)
  refine hz_do F rfl (ex_len rfl (gx_l1 (F.e rfl) gx_l0) (rn_lens Tryz.underlying24)) ?_; intro A F
  refine zb (rn_lssN (i := j) (j := p.filters.length)) ?_; intro A F
  refine wpList_nil (hK75 _ _ ?_)
  refine zc (fun hb76 => ?_) (fun hb76 => ?_)
  ·skip
   refine wp_skip (hK74 _ _ ?_)
   refine wp_seq_k (fun K77 hK77 => ?_)
   refine wp_block ?_
   refine wp_seq_k (fun K78 hK78 => gx_region ?_)
   iterate 4 (refine zd ?_; intro A F)
   have hlt : j < p.filters.length := of_decide_eq_true hb76
   have hfm := List.getElem_mem hlt; have hf1 := hS.ri.filt _ hfm; have hf2 := hF.opt _ hfm
   obtain ⟨bf, of, ha0, hbl0, q0, q1⟩ := (hp.kept H.k).hf.filt hlt
   refine hz_do F rfl (ex_idxaddr rfl ((F.e rfl).trans (show _ = Value.slice (some ⟨bf, of, none⟩) p.filters.length s.fc from by first | (rw [← ha0]; done) | (rw [← ha0]; rfl))) (F.e rfl) (rn_idx Tryz.underlying24 (gs_83 _) hlt)) ?_; intro A F
   refine zd ?_; intro A F
   refine hz_do (v := (.string p.filters[j].text)) F rfl (ex_load rfl (F.e rfl) (gl_one (ag_9 _) q0)) ?_; intro A F
   refine hz_call (R := OwnR w (l ++ binBy p.filters[j].text)) F H rfl (ex_call rfl rfl (gx_l1 (F.e rfl) (gx_l1 (F.e rfl) gx_l0)) fn_69) (lays_ownR H.size (refbinX a c l p.filters[j].text _ (by exact hf1) (own_row hO).1 (own_row hO).2 (by first | omega | (simp only [List.length_append, b1_len, b2_len, binBy_len, List.length_nil]; omega)))) ?_; clear F H A; intro vv W A hR hk H F; obtain ⟨a79, c79, rfl, hO79⟩ := hR
   clear hk
   refine zd ?_; intro A F
   refine wpList_nil (hK78 _ _ ?_)
   refine wp_seq_k (fun K80 hK80 => gx_region ?_)
   iterate 2 (refine zd ?_; intro A F)
   refine zb (rn_eql) ?_; intro A F
   replace F := F.hd (congrArg Value.bool hb50)
   refine wpList_nil (hK80 _ _ ?_)
   refine wp_cond_false (F.e rfl) ?_
   refine wp_skip (hK77 _ _ ?_)
   refine gx_region ?_
   refine zd ?_; intro A F
   refine hz_do F rfl (ex_bin rfl (F.e rfl) gx_evc (rn_add (gx_wrap_i64 (by omega) (by omega)))) ?_; intro A F
   refine zd ?_; intro A F
   refine wpList_nil ?_
   have hlx : (l ++ binBy p.filters[j].text) = ((([] : List UInt8) ++ by2 p.id) ++ secB v p.props) ++ filtB p.kind (p.filters.take (j + 1)) := by have h8 := of_decide_eq_true hb67; (try replace h8 : ¬ p.kind = 8 := by omega); rw [filtB_snoc hlt, hl]; first | (rw [if_pos h8]; simp only [List.append_assoc]; done) | (rw [if_neg h8]; simp only [List.append_assoc, List.append_nil]; done)
   exact hJ73 ((j + 1)) _ _ (by omega) ⟨(l ++ binBy p.filters[j].text), a79, c79, ((((((F.nil.cons (F.g 8 _ rfl)).cons (gx_is (F.g 6 _ rfl) (by simp))).cons (F.g 5 _ rfl)).cons (F.g 4 _ rfl)).cons (F.g 3 _ rfl)).cons (F.g 0 _ rfl)), H, hO79, by omega, hlx, (by rw [hlx]; have h8 := filtB_take p.kind p.filters (j + 1); simp only [List.length_append, b2_len, List.length_nil]; omega)⟩
  refine wp_exit ?_
  refine hK71 _ _ ?_
  refine wp_seq_k (fun K81 hK81 => gx_region ?_)
  iterate 2 (refine zd ?_; intro A F)
  refine wpList_nil (hK81 _ _ ?_)
  refine gx_ret ?_
  refine (show bodyPost _ Tryz.f27 RR Exit.ret _ _ from zr ?_)
  exact (bytes_of (by rw [hl, List.take_of_length_le (by have h8 := of_decide_eq_false hb76; omega)]; rw [behB_8 (by have := of_decide_eq_true hb67; omega)] <;> first | rfl | ((try unfold publB); simp only [List.nil_append, List.append_assoc]; done)) hO H.k)
 refine wp_seq_k (fun K82 hK82 => ?_)
 refine wp_seq_k (fun K83 hK83 => gx_region ?_)
 refine zb (rn_eql) ?_; intro A F
 refine zd ?_; intro A F
 refine wpList_nil (hK83 _ _ ?_)
 refine zc (fun hb84 => ?_) (fun hb84 => ?_)
 ·skip
  refine wp_skip (hK82 _ _ ?_)
  refine wp_cond_true ((F.e rfl).trans (congrArg Value.bool hb84)) ?_
  refine wp_seq_k (fun K85 hK85 => ?_)
  refine wp_region_held_drew (S := fun wx => Hp _ wx _) (by kernel_rfl) H.drew (fun H9 => ?_); clear H; have H := H9; clear H9
  generalize World.drew _ = W at *
  refine td 0 ?_; intro A F
  refine td 1 ?_; intro A F
  refine td 2 ?_; intro A F
  refine hzh_do (v := (.int .u64 ((p.id : Int)))) (i := 3) F rfl rfl (by kernel_rfl) (fun _ _ _ h => h) (H) (fun wz H => (ex_conv rfl (F.e rfl) (cv16_64 p.id _ (by have := hF.id; have := hF.keep; omega)))) ?_; intro A F
  refine td 5 ?_; intro A F
  refine td 6 ?_; intro A F
  refine td 8 ?_; intro A F
  refine td 9 ?_; intro A F
  refine hb_one (i := 4) (by kernel_rfl) (hb_call (i := 4) (R := OwnR w (([] : List UInt8) ++ by2 p.id)) F rfl rfl (ex_call rfl rfl (gx_l1 gx_evc (gx_l1 (F.e rfl) (gx_l1 gx_evc gx_l0))) fn_70) (lays_ownR H.size (refNum2 none 0 ([] : List UInt8) p.id _ (by have := hF.id; have := hF.keep; omega) (.nil _ _) (fun _ => ⟨rfl, rfl⟩) (by first | omega | (simp only [List.length_append, b1_len, b2_len, binBy_len, List.length_nil]; omega)))) (fun _ hk => (H.kept hk)) ?_); clear F A; intro vv W A hR hk _ F; replace H := H.kept hk; obtain ⟨a86, c86, rfl, hO86⟩ := hR
  clear hk
  refine hb_one (i := 7) (by kernel_rfl) (hb_call (i := 7) (R := OwnR w ((([] : List UInt8) ++ by2 p.id) ++ secB v p.props)) F rfl rfl (ex_call rfl rfl (gx_l1 (F.e rfl) (gx_l1 (F.e rfl) (gx_l1 (F.e rfl) gx_l0))) fn_68) (rsection_any w v p.props s.pa s.pc a86 c86 (([] : List UInt8) ++ by2 p.id) hO86 hS.ri.hv (hp.kept H.k).hp (by have := hF.few.hp; have := hN.np; omega) hF.wf.p hS.okp (by first | omega | (simp only [List.length_append, b1_len, b2_len, binBy_len, List.length_nil]; omega)) H.size) (fun _ hk => (H.kept hk)) ?_); clear F A; intro vv W A hR hk _ F; replace H := H.kept hk; obtain ⟨a87, c87, rfl, hO87⟩ := hR
  clear hk
  obtain ⟨v9, W9, hrun, hO9, hg⟩ := app_bytes (l := ((([] : List UInt8) ++ by2 p.id) ++ secB v p.props)) hO87 (hp.hc.keptNo H.k) (fun e => (hcn e).2) (by first | omega | (simp only [List.length_append, b1_len, b2_len, binBy_len, List.length_nil]; omega)) H.size
  have hkS := kept_grown hg; obtain ⟨a88, c88, hv9⟩ := own_slice hO9; subst hv9
  replace H := Hp.grown H hO87 hkS (fa1 (sv_type hO87 (H.b.at_ (j := 0) rfl).1 (show 27 ≠ 5 by decide)) fa0)
  refine hb_one (i := 10) (by kernel_rfl) (hb_new (i := 10) F rfl rfl (ex_builtin rfl (gx_l1 (F.e rfl) (gx_l1 (F.e rfl) gx_l0)) (fun cs => by simp only [builtin]; exact gx_val hrun)) (H) ?_); intro A F
  clear hrun hg hkS; clear hO87; have hO88x := hO9; clear hO9; generalize W9 = W at *
  refine td 11 ?_; intro A F
  refine wpAnyH_done (by kernel_rfl) ?_ _
  refine hK85 _ _ ?_
  refine gx_ret ?_
  refine (show bodyPost _ Tryz.f27 RR Exit.ret _ _ from zr ?_)
  exact (bytes_of (by rw [behB_9 (by have := of_decide_eq_true hb84; omega)] <;> first | rfl | ((try unfold publB); simp only [List.nil_append, List.append_assoc]; done)) hO88x H.k)
 refine gx_region ?_
 refine zb (rn_eql) ?_; intro A F
 refine zd ?_; intro A F
 refine wpList_nil (hK82 _ _ ?_)
 refine zc (fun hb89 => ?_) (fun hb89 => ?_)
 ·skip
  refine wp_seq_k (fun K90 hK90 => ?_)
  refine wp_region_held_drew (S := fun wx => Hp _ wx _) (by kernel_rfl) H.drew (fun H9 => ?_); clear H; have H := H9; clear H9
  generalize World.drew _ = W at *
  refine td 0 ?_; intro A F
  refine td 1 ?_; intro A F
  refine td 2 ?_; intro A F
  refine hzh_do (v := (.int .u64 ((p.id : Int)))) (i := 3) F rfl rfl (by kernel_rfl) (fun _ _ _ h => h) (H) (fun wz H => (ex_conv rfl (F.e rfl) (cv16_64 p.id _ (by have := hF.id; have := hF.keep; omega)))) ?_; intro A F
  refine td 5 ?_; intro A F
  refine td 6 ?_; intro A F
  refine td 8 ?_; intro A F
  refine td 9 ?_; intro A F
  refine hb_one (i := 4) (by kernel_rfl) (hb_call (i := 4) (R := OwnR w (([] : List UInt8) ++ by2 p.id)) F rfl rfl (ex_call rfl rfl (gx_l1 gx_evc (gx_l1 (F.e rfl) (gx_l1 gx_evc gx_l0))) fn_70) (lays_ownR H.size (refNum2 none 0 ([] : List UInt8) p.id _ (by have := hF.id; have := hF.keep; omega) (.nil _ _) (fun _ => ⟨rfl, rfl⟩) (by first | omega | (simp only [List.length_append, b1_len, b2_len, binBy_len, List.length_nil]; omega)))) (fun _ hk => (H.kept hk)) ?_); clear F A; intro vv W A hR hk _ F; replace H := H.kept hk; obtain ⟨a91, c91, rfl, hO91⟩ := hR
  clear hk
  refine hb_one (i := 7) (by kernel_rfl) (hb_call (i := 7) (R := OwnR w ((([] : List UInt8) ++ by2 p.id) ++ secB v p.props)) F rfl rfl (ex_call rfl rfl (gx_l1 (F.e rfl) (gx_l1 (F.e rfl) (gx_l1 (F.e rfl) gx_l0))) fn_68) (rsection_any w v p.props s.pa s.pc a91 c91 (([] : List UInt8) ++ by2 p.id) hO91 hS.ri.hv (hp.kept H.k).hp (by have := hF.few.hp; have := hN.np; omega) hF.wf.p hS.okp (by first | omega | (simp only [List.length_append, b1_len, b2_len, binBy_len, List.length_nil]; omega)) H.size) (fun _ hk => (H.kept hk)) ?_); clear F A; intro vv W A hR hk _ F; replace H := H.kept hk; obtain ⟨a92, c92, rfl, hO92⟩ := hR
  clear hk
  obtain ⟨v9, W9, hrun, hO9, hg⟩ := app_bytes (l := ((([] : List UInt8) ++ by2 p.id) ++ secB v p.props)) hO92 (hp.hc.keptNo H.k) (fun e => (hcn e).2) (by first | omega | (simp only [List.length_append, b1_len, b2_len, binBy_len, List.length_nil]; omega)) H.size
  have hkS := kept_grown hg; obtain ⟨a93, c93, hv9⟩ := own_slice hO9; subst hv9
  replace H := Hp.grown H hO92 hkS (fa1 (sv_type hO92 (H.b.at_ (j := 0) rfl).1 (show 27 ≠ 5 by decide)) fa0)
  refine hb_one (i := 10) (by kernel_rfl) (hb_new (i := 10) F rfl rfl (ex_builtin rfl (gx_l1 (F.e rfl) (gx_l1 (F.e rfl) gx_l0)) (fun cs => by simp only [builtin]; exact gx_val hrun)) (H) ?_); intro A F
  clear hrun hg hkS; clear hO92; have hO93x := hO9; clear hO9; generalize W9 = W at *
  refine td 11 ?_; intro A F
  refine wpAnyH_done (by kernel_rfl) ?_ _
  refine hK90 _ _ ?_
  refine gx_ret ?_
  refine (show bodyPost _ Tryz.f27 RR Exit.ret _ _ from zr ?_)
  exact (bytes_of (by rw [behB_9 (by have := of_decide_eq_true hb89; omega)] <;> first | rfl | ((try unfold publB); simp only [List.nil_append, List.append_assoc]; done)) hO93x H.k)
 refine wp_seq_k (fun K94 hK94 => ?_)
 refine wp_seq_k (fun K95 hK95 => gx_region ?_)
 refine zb (rn_eql) ?_; intro A F
 refine zd ?_; intro A F
 refine wpList_nil (hK95 _ _ ?_)
 refine zc (fun hb96 => ?_) (fun hb96 => ?_)
 ·skip
  refine wp_skip (hK94 _ _ ?_)
  refine wp_cond_true ((F.e rfl).trans (congrArg Value.bool hb96)) ?_
  refine wp_seq_k (fun K97 hK97 => gx_region ?_)
  refine zd ?_; intro A F
  refine hz_do F rfl (ex_load rfl (F.e rfl) (gl_agg ((Pk.cells p s)) rfl (ga_27 _) (gs_27 _) (fun i => H.cs 0 rfl i))) ?_; intro A F
  have hOn := own_nil (B := w.heap.size) (e := 5) (k := 1) W
  refine hz_callR (CoR w _ (.slice none (([] : List UInt8)).length 0) (([] : List UInt8) ++ shortB v p)) F rfl (ex_call rfl rfl (gx_l1 (F.e rfl) (gx_l1 gx_evc (gx_l1 (F.e rfl) gx_l0))) fn_71) (rcode_any w _ ⟨H.k, trivial⟩ v p s none 0 (([] : List UInt8)) hOn hp hF hS hN (by first | omega | (simp only [List.length_append, b1_len, b2_len, binBy_len, List.length_nil]; omega))) (fun _ _ h => Hp.grown H hOn h.2 (fa1 (sv_type hOn (H.b.at_ (j := 0) rfl).1 (show 27 ≠ 5 by decide)) fa0)) ?_; clear F H A; intro vv W A hR H F; obtain ⟨⟨a98, c98, rfl, hO98⟩, -⟩ := hR
  refine zd ?_; intro A F
  refine wpList_nil (hK97 _ _ ?_)
  refine gx_ret ?_
  refine (show bodyPost _ Tryz.f27 RR Exit.ret _ _ from zr ?_)
  exact (bytes_of (by rw [behB_14 (by have := of_decide_eq_true hb96; omega)] <;> first | rfl | ((try unfold publB); simp only [List.nil_append, List.append_assoc]; done)) hO98 H.k)
 refine gx_region ?_
 refine zb (rn_eql) ?_; intro A F
 refine zd ?_; intro A F
 refine wpList_nil (hK94 _ _ ?_)
 refine zc (fun hb99 => ?_) (fun hb99 => ?_)
 ·skip
  replace F := (((F.nil.cons (F.g 4 _ rfl)).cons (F.g 3 _ rfl)).cons (F.g 0 _ rfl))
  refine wp_seq_k (fun K100 hK100 => gx_region ?_)
  refine zd ?_; intro A F
  refine hz_do F rfl (ex_load rfl (F.e rfl) (gl_agg ((Pk.cells p s)) rfl (ga_27 _) (gs_27 _) (fun i => H.cs 0 rfl i))) ?_; intro A F
  have hOn := own_nil (B := w.heap.size) (e := 5) (k := 1) W
  refine hz_callR (CoR w _ (.slice none (([] : List UInt8)).length 0) (([] : List UInt8) ++ shortB v p)) F rfl (ex_call rfl rfl (gx_l1 (F.e rfl) (gx_l1 gx_evc (gx_l1 (F.e rfl) gx_l0))) fn_71) (rcode_any w _ ⟨H.k, trivial⟩ v p s none 0 (([] : List UInt8)) hOn hp hF hS hN (by first | omega | (simp only [List.length_append, b1_len, b2_len, binBy_len, List.length_nil]; omega))) (fun _ _ h => Hp.grown H hOn h.2 (fa1 (sv_type hOn (H.b.at_ (j := 0) rfl).1 (show 27 ≠ 5 by decide)) fa0)) ?_; clear F H A; intro vv W A hR H F; obtain ⟨⟨a101, c101, rfl, hO101⟩, -⟩ := hR
  refine zd ?_; intro A F
  refine wpList_nil (hK100 _ _ ?_)
  refine gx_ret ?_
  refine (show bodyPost _ Tryz.f27 RR Exit.ret _ _ from zr ?_)
  exact (bytes_of (by rw [behB_14 (by have := of_decide_eq_true hb99; omega)] <;> first | rfl | ((try unfold publB); simp only [List.nil_append, List.append_assoc]; done)) hO101 H.k)
 replace F := (((F.nil.cons (F.g 4 _ rfl)).cons (F.g 3 _ rfl)).cons (F.g 0 _ rfl))
 refine wp_skip (hK4 _ _ ?_)
 refine wp_seq_k (fun K102 hK102 => gx_region ?_)
 refine zd ?_; intro A F
 refine wpList_nil (hK102 _ _ ?_)
 refine gx_ret ?_
 refine (show bodyPost _ Tryz.f27 RR Exit.ret _ _ from zr ?_)
 exact (bytes_of (l := []) (by have := of_decide_eq_false hb7; have := of_decide_eq_false hb11; have := of_decide_eq_false hb17; have := of_decide_eq_false hb30; have := of_decide_eq_false hb35; have := of_decide_eq_false hb40; have := of_decide_eq_false hb44; have := of_decide_eq_false hb50; have := of_decide_eq_false hb67; have := of_decide_eq_false hb84; have := of_decide_eq_false hb89; have := of_decide_eq_false hb96; have := of_decide_eq_false hb99; rw [behB_0 (by omega) (by omega) (by omega) (by omega) (by omega) (by omega) (by omega)]) (own_nil _) H.k)
theorem chk_ok {k : Int} : ∀ (L : List Pr) (o : Option Nat), chkGo k o L = true → ∀ p ∈ L, p.ok = true
 | [], _, _ => by simp
 | p :: t, q, h => by
  unfold chkGo at h
  simp only [Bool.and_eq_true] at h
  intro x hx
  rcases List.mem_cons.1 hx with rfl | hx
  ·have := h.1; unfold valueB at this; simp only [Bool.and_eq_true] at this; exact this.1
  ·exact chk_ok t _ h.2.2.2 x hx
theorem check_ok {k : Int} {L : List Pr} (h : checkB k L = true) : ∀ p ∈ L, p.ok = true := by
 unfold checkB at h
 simp only [Bool.and_eq_true] at h
 exact chk_ok L none h.2.1
theorem small_lay : ∀ (L : List Pr), (∀ p ∈ L, p.wf') → (∀ p ∈ L, p.ok = true) → (∀ x ∈ L, x.a.size ≤ 300 ∧ x.b.size ≤ 300) → (layAll L).length ≤ L.length * 609
 | [], _, _, _ => by simp [layAll]
 | p :: t, hw, hk, hs => by
  have hl : p.lay.length = p.size := layP_len (Pr.fits (hw p (by simp)) (hk p (by simp)))
  have h1 := szP_small (hs p (by simp))
  have h2 := small_lay t (fun q hq => hw q (List.mem_cons_of_mem _ hq)) (fun q hq => hk q (List.mem_cons_of_mem _ hq)) (fun q hq => hs q (List.mem_cons_of_mem _ hq))
  rw [show layAll (p :: t) = p.lay ++ layAll t from rfl, List.length_append, hl, List.length_cons]
  omega
theorem sm_of {v : Int} {p : Pk} (hr : rightP v p = true) (hs : Small p) (hw : Wf p) : Sm v p := by
 have ri := right_ri hr
 have hP : v = 5 → checkB p.kind p.props = true ∧ checkB 16 p.willProps = true := fun h5 => by
  unfold rightP propsB at hr
  rw [if_neg (show ¬ v = 4 by omega)] at hr
  simp only [Bool.and_eq_true] at hr
  exact hr.2.2.1
 have hn := hs.np; have hn2 := hs.nw
 refine ⟨ri, ?_, ?_, ?_, hs.sum, fun h5 => ?_, fun h5 => ?_⟩
 ·rw [secB_len v p.props hw.p]; have := secN_small (v := v) hs.tp hs.np; omega
 ·rw [secB_len v p.willProps hw.w]; have := secN_small (v := v) hs.tw hs.nw; omega
 ·rw [filtB_len]; have := filtersN_small p.kind p.filters hs.tf; have := hs.nf; omega
 ·have h1 := check_ok (hP h5).1
  have h2 := small_lay p.props hw.p h1 hs.tp
  exact ⟨_, lenGo_all p.props 0 hw.p h1 (by omega)⟩
 ·have h1 := check_ok (hP h5).2
  have h2 := small_lay p.willProps hw.w h1 hs.tw
  exact ⟨_, lenGo_all p.willProps 0 hw.w h1 (by omega)⟩
theorem encIs_yes {v : Int} {p : Pk} {w w' : World} {l : List UInt8} {a : Option Addr} {c : Nat} (h : rightP v p = true) (hl : encB v p = l) (hO : w'.ownsRow w.heap.size 5 1 (.slice a l.length c) l.length (B8 l)) (hk : Kept No w w') : ∃ u, Ending.returned (.tuple #[.slice a l.length c, .int .i64 0]) = .returned u ∧ EncIs v p w u w' ∧ Kept No w w' := by
 subst hl
 exact ⟨_, rfl, by unfold EncIs encL; rw [if_pos h, if_pos h]; exact ⟨a, c, rfl, hO⟩, hk⟩
set_option maxHeartbeats 8000000 in
theorem rencode8_any (v : Int) (p : Pk) (s : Sl) (w : World) (hp : p.At s w) (hF : Fit p) (hN : Small p) (hcn : s.ca = none → p.codes.length = 0 ∧ s.cc = 0) :
  Calls Tryz.prog 19 #[.int .i64 v, p.val s] w fun e w' => ∃ u, e = .returned u ∧ EncIs v p w u w' ∧ Kept No w w' := by
 let RR : Ending → World → Prop := fun e w' => ∃ u, e = .returned u ∧ EncIs v p w u w' ∧ Kept No w w'
 go_enter Tryz.func19, Tryz.ntmps19
 generalize hA : ({ tmps := _, defers := [] } : Act) = A
 have F : Fr A 28 [(1, (Pk.val p s)), (0, (.int .i64 v))] := by rw [← hA]; exact (Fr.cons (i := 1) (v := (Pk.val p s)) (Fr.cons (i := 0) (v := (.int .i64 v)) (Fr.nil0 rfl rfl) rfl) rfl)
 clear hA; have H := Hp.start w
 refine wp_seq_k (fun K1 hK1 => gx_region ?_)
 refine hz_new (c := (Pk.cells p s)) (t := 27) F H rfl (ex_box rfl (F.e rfl) (gx_box _ _)) ?_; clear F A; intro b2 W A hk hN H9 F; clear H; have H := H9; clear H9
 clear hk hN
 iterate 2 (refine zd ?_; intro A F)
 refine wpList_nil (hK1 _ _ ?_)
 refine wp_seq_k (fun K3 hK3 => ?_)
 refine wp_seq_k (fun K4 hK4 => gx_region ?_)
 refine zd ?_; intro A F
 refine hz_do F rfl (ex_load rfl (F.e rfl) (gl_agg ((Pk.cells p s)) rfl (ga_27 _) (gs_27 _) (fun i => H.cs 0 rfl i))) ?_; intro A F
 refine hz_callk F H rfl (ex_call rfl rfl (gx_l1 (F.e rfl) (gx_l1 (F.e rfl) gx_l0)) fn_45) (rpkRight_any v p s _ (hp.kept H.k) hF hcn) ?_; clear F H A; intro W A hk H F
 clear hk
 refine zd ?_; intro A F
 refine wpList_nil (hK4 _ _ ?_)
 refine zc (fun hb6 => ?_) (fun hb6 => ?_)
 ·skip
  refine wp_seq_k (fun K7 hK7 => gx_region ?_)
  iterate 2 (refine zd ?_; intro A F)
  refine wpList_nil (hK7 _ _ ?_)
  refine gx_ret ?_
  refine (show bodyPost _ Tryz.f19 RR Exit.ret _ _ from zr2 ?_)
  exact ⟨_, rfl, encIs_no (by rw [right_eq v p hF.opt (restN_small hN)]; have h9 := hb6; revert h9; cases rightD v p <;> simp), H.k⟩
 refine wp_skip (hK3 _ _ ?_)
 refine wp_seq_k (fun K8 hK8 => gx_region ?_)
 refine zd ?_; intro A F
 refine hz_do F rfl (ex_load rfl (F.e rfl) (gl_agg ((Pk.cells p s)) rfl (ga_27 _) (gs_27 _) (fun i => H.cs 0 rfl i))) ?_; intro A F
 have hrP : rightP v p = true := by rw [right_eq v p hF.opt (restN_small hN)]; exact gnz hb6
 have hS := sm_of hrP hN hF.wf; have hfl := flagsN_lt hS.ri; have hk1 := hS.ri.k1; have hk2 := hS.ri.k2; have hvl := varL_le (behB v p).length; have hbl : (behB v p).length ≤ 268435455 := by rw [behB_len v p hF.wf]; exact hS.ri.rest
 refine hz_call (R := OwnR w (behB v p)) F H rfl (ex_call rfl rfl (gx_l1 (F.e rfl) (gx_l1 (F.e rfl) gx_l0)) fn_27) (own_from H.size (behind8_any v p s _ (hp.kept H.k) hF hS hN hcn)) ?_; clear F H A; intro vv W A hR hk H F; obtain ⟨ab, cb, rfl, hOb⟩ := hR
 clear hk
 refine zd ?_; intro A F
 refine wpList_nil (hK8 _ _ ?_)
 refine wp_seq_k (fun K10 hK10 => ?_)
 refine wp_region_held_drew (S := fun wx => Hp _ wx _) (by kernel_rfl) H.drew (fun H9 => ?_); clear H; have H := H9; clear H9
 replace hOb := og_kept hOb (Kept.refl No _).drew
 generalize World.drew _ = W at *
 refine td 0 ?_; intro A F
 refine td 1 ?_; intro A F
 refine hzh_do (i := 2) F rfl rfl (by kernel_rfl) (fun _ _ _ h => h) (H) (fun wz H => (ex_bin rfl gx_evc (F.e rfl) (rn_mul (gx_wrap_i64 (by omega) (by omega))))) ?_; intro A F
 refine hzh_do (i := 3) F rfl rfl (by kernel_rfl) (fun _ _ _ h => h) (H) (fun wz H => (ex_load rfl (F.e rfl) (gl_agg ((Pk.cells p s)) rfl (ga_27 _) (gs_27 _) (fun i => H.cs 0 rfl i)))) ?_; intro A F
 refine td 8 ?_; intro A F
 refine hzh_do (i := 9) F rfl rfl (by kernel_rfl) (fun _ _ _ h => h) (H) (fun wz H => (ex_len rfl (gx_l1 (F.e rfl) gx_l0) (rn_lens Tryz.underlying25))) ?_; intro A F
 refine hzh_do (v := (.int .u32 ((((behB v p).length) : Int)))) (i := 10) F rfl rfl (by kernel_rfl) (fun _ _ _ h => h) (H) (fun wz H => (ex_conv rfl (F.e rfl) (cvI32 (((behB v p).length)) _ (by omega)))) ?_; intro A F
 refine td 12 ?_; intro A F
 refine hb_one (i := 4) (by kernel_rfl) (hb_callk (i := 4) F rfl rfl (ex_call rfl rfl (gx_l1 (F.e rfl) gx_l0) fn_22) (rflags_any p s _ hF) (fun _ hk => (H.kept hk)) ?_); clear F A; intro W A hk _ F; replace H := H.kept hk
 replace hOb := og_kept hOb hk
 clear hk
 refine hzh_do (i := 5) F rfl rfl (by kernel_rfl) (fun _ _ _ h => h) (H) (fun wz H => (ex_bin rfl (F.e rfl) (F.e rfl) (rn_add (gx_wrap_i64 (by omega) (by omega))))) ?_; intro A F
 refine hzh_do (v := (.int .u8 (((16 * p.kind.toNat + flagsN p : Nat) : Int)))) (i := 6) F rfl rfl (by kernel_rfl) (fun _ _ _ h => h) (H) (fun wz H => (ex_conv rfl ((F.e rfl).trans (show _ = Value.int .i64 ((16 * p.kind.toNat + flagsN p : Nat) : Int) from congrArg _ (by push_cast; omega))) (cvN8 (16 * p.kind.toNat + flagsN p) _ (by omega)))) ?_; intro A F
 refine hb_one (i := 7) (by kernel_rfl) (hb_blk (i := 7) (c := #[(.int .u8 (((16 * p.kind.toNat + flagsN p : Nat) : Int)))]) (t := 5) (fun b9 => .slice (some ⟨b9, 0, none⟩) 1 1) F H rfl rfl (ex_buildSlice rfl (gx_p1 (F.e rfl) gx_p0) (by kernel_rfl)) (fun _ _ H => H.tl) ?_); clear F A; intro b12 W A hk hN H9 F; clear H; have H := H9; clear H9
 have hne_hOb_b12 := og_lt hOb hN
 replace hOb := og_kept hOb hk
 clear hk hN
 have hOl := own_lit1 H (j := 0) rfl (show 16 * p.kind.toNat + flagsN p ≤ 255 by omega)
 refine hb_one (i := 11) (by kernel_rfl) (hb_call (i := 11) (R := OwnR w (by1 (16 * p.kind.toNat + flagsN p) ++ varL (behB v p).length)) F rfl rfl (ex_call rfl rfl (gx_l1 (F.e rfl) (gx_l1 (F.e rfl) gx_l0)) fn_46) (lays_ownR H.size (refvX (some ⟨b12, 0, none⟩) 1 (by1 (16 * p.kind.toNat + flagsN p)) (behB v p).length _ (by omega) (own_row hOl).1 (own_row hOl).2 (by rw [b1_len]; omega))) (fun _ hk => (H.kept hk).tl) ?_); clear F A; intro vv W A hR hk _ F; replace H := H.kept hk; obtain ⟨av, cv, rfl, hOv⟩ := hR
 replace hOb := og_kept hOb hk
 clear hk
 replace H := H.tl
 obtain ⟨v9, W9, hrun, hO9, hg⟩ := app_bytes (l := (by1 (16 * p.kind.toNat + flagsN p) ++ varL (behB v p).length)) hOv (own_row hOb).1 (fun e => ((own_row hOb).2 e).2) (by first | omega | (simp only [List.length_append, b1_len, b2_len, binBy_len, List.length_nil]; omega)) H.size
 have hkS := kept_grown hg; obtain ⟨a14, c14, hv9⟩ := own_slice hO9; subst hv9
 replace H := Hp.grown H hOv hkS (fa1 (sv_type hOv (H.b.at_ (j := 0) rfl).1 (show 27 ≠ 5 by decide)) fa0)
 refine hb_one (i := 13) (by kernel_rfl) (hb_new (i := 13) F rfl rfl (ex_builtin rfl (gx_l1 (F.e rfl) (gx_l1 (F.e rfl) gx_l0)) (fun cs => by simp only [builtin]; exact gx_val hrun)) (H) ?_); intro A F
 clear hrun hg hkS; clear hOv; have hO14x := hO9; clear hO9; generalize W9 = W at *
 refine td 14 ?_; intro A F
 refine td 15 ?_; intro A F
 refine wpAnyH_done (by kernel_rfl) ?_ _
 refine hK10 _ _ ?_
 refine gx_ret ?_
 refine (show bodyPost _ Tryz.f19 RR Exit.ret _ _ from zr2 ?_)
 exact (encIs_yes hrP (by unfold encB; rfl) hO14x H.k)
end Go.Proofs.YtomppebamfpimaaGreatDoor
