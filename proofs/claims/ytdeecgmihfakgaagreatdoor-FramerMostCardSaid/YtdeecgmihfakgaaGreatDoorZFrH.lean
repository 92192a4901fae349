/-
  FramerHolds' walk.
-/
import Derived.Test.YtdeecgmihfakgaaGreatDoorZFrS
import Derived.Test.YtdeecgmihfakgaaGreatDoorYG7
namespace Go.Proofs.YtdeecgmihfakgaaGreatDoor
open Go.RowKit
set_option linter.unusedVariables false
set_option linter.unusedSimpArgs false
set_option maxRecDepth 100000


/-- What waits: nothing, where something is wrong; else what isn't whole. -/
def Wt (v m : Int) (S : Fs) : Prop := (S.e ≠ 0 → S.h = []) ∧ (S.e = 0 → nextE v m S.fst S.h = 2)
theorem rv_short : ∀ (f i n : Nat) (l : List UInt8), f ≤ l.length → (rv f i n l 0).2.2 ≠ 2
  | 0, i, n, l, _ => (by decide : (3 : Int) ≠ 2)
  | f + 1, i, n, [], h => by simp at h
  | f + 1, i, n, c :: t, h => by
    have hf : f ≤ t.length := by simpa using h
    have l1 : leftL 1 (c :: t) 0 = t := by unfold leftL; rw [if_pos rfl, if_pos ⟨by decide, by simp only [List.length_cons]; omega⟩]; rfl
    have e1 : leftE 1 (c :: t) 0 = 0 := by unfold leftE; rw [if_pos rfl, if_pos ⟨by decide, by simp only [List.length_cons]; omega⟩]
    by_cases h1 : 128 ≤ num (taken 1 (c :: t) 0)
    · rw [rv_more e1 h1, l1, e1]
      exact rv_short f _ _ t hf
    · by_cases h2 : num (taken 1 (c :: t) 0) = 0 ∧ 0 < i
      · rw [rv_zero e1 h2.1 h2.2]
        exact (by decide : (3 : Int) ≠ 2)
      · rw [rv_done e1 (by omega) h2]
        show leftE 1 (c :: t) 0 ≠ 2
        rw [e1]
        decide
theorem head_short {l : List UInt8} (h : headE l = 2) : l.length ≤ 4 := by
  by_cases h5 : l.length ≤ 4
  · exact h5
  · obtain ⟨c, t, rfl⟩ : ∃ c t, l = c :: t := by
      cases l with
      | nil => simp at h5
      | cons c t => exact ⟨c, t, rfl⟩
    rw [(head_full _).1] at h
    have l1 : leftL 1 (c :: t) 0 = t := by unfold leftL; rw [if_pos rfl, if_pos ⟨by decide, by simp only [List.length_cons]; omega⟩]; rfl
    have e1 : leftE 1 (c :: t) 0 = 0 := by unfold leftE; rw [if_pos rfl, if_pos ⟨by decide, by simp only [List.length_cons]; omega⟩]
    unfold headS at h
    rw [l1, e1] at h
    exact absurd h (rv_short 4 0 0 t (by simp at h5; omega))
theorem next_wait {v m : Int} {fst : Bool} {l : List UInt8} (h : nextE v m fst l = 2) : (l.length : Int) ≤ max m 4 := by
  unfold nextE at h
  split at h
  · have := head_short h; omega
  split at h
  · cases h
  split at h
  · cases h
  split at h
  · omega
  · rename_i h1 h2 h3 h4
    exfalso
    revert h
    unfold decE
    repeat' split
    all_goals decide
theorem wt_len {v m : Int} {S : Fs} (h : Wt v m S) : (S.h.length : Int) ≤ max m 4 := by
  by_cases h0 : S.e = 0
  · exact next_wait (h.2 h0)
  · rw [h.1 h0]; simp only [List.length_nil]; omega
theorem feedG_inv (v m : Int) : ∀ (n : Nat) (fst : Bool) (l : List UInt8), l.length ≤ n → (feedG v m n fst l).2.2 = 0 → nextE v m (fst && (feedG v m n fst l).1.isEmpty) (feedG v m n fst l).2.1 = 2
  | 0, fst, l, hn => fun _ => by
    obtain rfl : l = [] := List.length_eq_zero_iff.1 (by omega)
    exact nextE_nil
  | n + 1, fst, l, hn => by
    by_cases h0 : nextE v m fst l = 0
    · rw [feedG_go h0]
      have h1 := nextN_lt h0
      intro h
      have ih := feedG_inv v m n false (l.drop (nextN l)) (by rw [List.length_drop]; omega) h
      simpa using ih
    · by_cases h2 : nextE v m fst l = 2
      · rw [feedG_wait (n + 1) h2]
        intro _
        simpa using h2
      · rw [feedG_bad h0 h2 hn]
        intro h
        exact absurd h h0
theorem feedS_wt {v m : Int} {S : Fs} {b : List UInt8} {I : List (Pk × List UInt8)} {S' : Fs} (hfd : feedS v m S b = (I, S')) (hW : Wt v m S) : Wt v m S' := by
  have e2 : (feedS v m S b).2 = S' := congrArg Prod.snd hfd
  rw [← e2]
  unfold feedS
  split
  · exact hW
  · exact ⟨fun h => feedG_bad2 _ _ _ _ _ h, fun h => feedG_inv _ _ _ _ _ (Nat.le_refl _) h⟩
theorem wt_start (v m : Int) (fst : Bool) : Wt v m ⟨fst, [], 0⟩ := ⟨fun h => absurd rfl h, fun _ => nextE_nil⟩
theorem hold_head {size : Nat} (h2 : size ≤ 2000000) : headE (48 :: var7 size) = 0 ∧ headB (48 :: var7 size) = ⟨3, 0, ((48 :: var7 size).length : Int), size⟩ := by
  have hS : headS (48 :: var7 size) = (size, [], 0) := by
    have l1 : leftL 1 (48 :: var7 size) 0 = var7 size := by unfold leftL; rw [if_pos rfl, if_pos ⟨by decide, by simp only [List.length_cons]; omega⟩]; rfl
    have e1 : leftE 1 (48 :: var7 size) 0 = 0 := by unfold leftE; rw [if_pos rfl, if_pos ⟨by decide, by simp only [List.length_cons]; omega⟩]
    have h := rv_back 4 0 0 size [] (by omega) (fun h => absurd h (by omega)) (by decide)
    rw [List.append_nil] at h
    unfold headS
    rw [l1, e1, h]
    simp
  have hT : taken 1 (48 :: var7 size) 0 = [48] := by unfold taken; rw [if_pos ⟨rfl, by decide, by simp only [List.length_cons]; omega⟩]; rfl
  obtain ⟨q1, q2⟩ := head_full (48 :: var7 size)
  refine ⟨q1.trans (by rw [hS]), ?_⟩
  rw [q2 (by rw [hS]), hS, hT]
  simp [num]
theorem holds_fd {v m : Int} {size : Nat} (h1 : 1 ≤ size) (h2 : size ≤ 2000000) {I : List (Pk × List UInt8)} {f : Bool} {h : List UInt8} {e : Int} (hfd : feedS v m ⟨false, [], 0⟩ (48 :: var7 size) = (I, ⟨f, h, e⟩)) :
    (m < (size : Int) + ((48 :: var7 size).length : Int) → e = 5 ∧ h = []) ∧ (¬ m < (size : Int) + ((48 :: var7 size).length : Int) → e = 0 ∧ h = 48 :: var7 size) := by
  obtain ⟨he, hb⟩ := hold_head h2
  have e0 : feedS v m ⟨false, [], 0⟩ (48 :: var7 size) = ((feedG v m (48 :: var7 size).length false (48 :: var7 size)).1, ⟨false && (feedG v m (48 :: var7 size).length false (48 :: var7 size)).1.isEmpty, (feedG v m (48 :: var7 size).length false (48 :: var7 size)).2.1, (feedG v m (48 :: var7 size).length false (48 :: var7 size)).2.2⟩) := if_neg (fun q => q rfl)
  rw [e0] at hfd
  have e2 := congrArg Prod.snd hfd
  have e4 : (feedG v m (48 :: var7 size).length false (48 :: var7 size)).2.1 = h := congrArg Fs.h e2
  have e5 : (feedG v m (48 :: var7 size).length false (48 :: var7 size)).2.2 = e := congrArg Fs.e e2
  refine ⟨fun hm => ?_, fun hm => ?_⟩
  · have hn : nextE v m false (48 :: var7 size) = 5 := nextE_2 hb he (by show m < ((48 :: var7 size).length : Int) + (size : Int); omega)
    rw [feedG_bad (by rw [hn]; decide) (by rw [hn]; decide) (Nat.le_refl _)] at e4 e5
    exact ⟨e5.symm.trans hn, e4.symm⟩
  · have hn : nextE v m false (48 :: var7 size) = 2 := nextE_4 hb he (by show ¬ m < ((48 :: var7 size).length : Int) + (size : Int); omega) (fun q => by cases q.1) (by show ((48 :: var7 size).length : Int) < ((48 :: var7 size).length : Int) + (size : Int); omega)
    rw [feedG_wait _ hn] at e4 e5
    exact ⟨e5.symm, e4.symm⟩
theorem ex_maxI {ρ : Operand → Value} {P : Program} {o : Oper} {w : World} {l : List Operand} {ats : Array TypeId} {k : IntKind} {x y : Int} (ho : o.op = .call { callee := .builtin .max, args := l.toArray, argTypes := ats }) (hl : l.map ρ = [.int k x, .int k y]) :
    (execOp ρ o).run P w = .ok (.value (.int k (max x y))) w := by
  refine ex_builtin ho hl fun cs => ?_
  simp only [builtin]
  refine gx_val ?_
  rw [show (#[Value.int k x, Value.int k y] : Array Value) = [Value.int k x, Value.int k y].toArray from rfl]
  rw [run_max_int2]
  have : (if y > x then y else x) = max x y := by split <;> omega
  rw [this]
theorem rn_geqN {P : Program} {w : World} {t : TypeId} {k : IntKind} {i j : Nat} {x y : Operand} : (do eqGuard .geq t x y (.int k i) (.int k j); binOp .geq t (.int k i) (.int k j) : Sem Value).run P w = .ok (.bool (decide (j ≤ i))) w := by
  rw [rn_geq]; simp
theorem cvI8 (n : Int) (w : World) (h : 0 ≤ n) (h2 : n ≤ 255) : (convert 3 5 (.int .i64 n)).run Tryz.prog w = .ok (.int .u8 (n.toNat : Int)) w := by
  obtain ⟨m, rfl⟩ : ∃ m : Nat, n = (m : Int) := ⟨n.toNat, by omega⟩
  have u := Tryz.underlying3
  have u2 := Tryz.underlying5
  have e : IntKind.u8.wrap ((m : Int)) = (m : Int) := gx_wrap_u8 (by omega) (by omega)
  go_simp
  try exact e
theorem b8_one {d : Nat} (h : d < 256) : B8 [byteOf (d : Int)] = [Value.int .u8 (d : Int)] := by
  simp [B8, byteOf_val (show (0 : Int) ≤ (d : Int) by omega) (show (d : Int) ≤ 255 by omega)]
theorem var7_four {n : Nat} (h : n ≤ 2000000) : (var7 n).length ≤ 4 := by
  by_cases h1 : n < 128
  · rw [var7_lt h1]; simp
  rw [var7_ge h1]
  by_cases h2 : n / 128 < 128
  · rw [var7_lt h2]; simp
  rw [var7_ge h2]
  by_cases h3 : n / 128 / 128 < 128
  · rw [var7_lt h3]; simp
  · omega
theorem var7_step {size mm d : Nat} {A : List UInt8} (hV : (0 < mm → var7 size = A ++ var7 mm) ∧ (mm = 0 → var7 size = A)) (h0 : 0 < mm) (hd : d = if mm < 128 then mm else mm % 128 + 128) : (0 < mm / 128 → var7 size = (A ++ [byteOf (d : Int)]) ++ var7 (mm / 128)) ∧ (mm / 128 = 0 → var7 size = A ++ [byteOf (d : Int)]) := by
  have h := hV.1 h0
  refine ⟨fun h1 => ?_, fun h1 => ?_⟩
  · rw [h, var7_ge (by omega), hd, if_neg (by omega)]
    have : ((mm % 128 + 128 : Nat) : Int) = (mm : Int) % 128 + 128 := by omega
    rw [this]
    simp
  · rw [h, var7_lt (by omega), hd, if_pos (by omega)]
set_option maxHeartbeats 8000000 in
theorem framerHolds_walk (v m : Int) (b : Bool) (a2 : Option Addr) (n2 c2 : Nat) (z : (Nat → Option Addr) × (Nat → List UInt8) × (Nat → Nat)) (nn : Nat) (hnn : nn < 4294967296) (w : World) (hs2 : IsBss w a2 n2 c2 z) (hm2 : n2 ≤ 9223372036854775807) (hT : Tabs w) :
    Calls Tryz.prog 11 #[.agg #[(.int .i64 v), (.int .i64 m), (.bool b)], .slice a2 n2 c2, .int .u32 (nn : Int)] w fun e w' => e = .returned (.bool true) ∧ Below w.heap.size w w' := by
  obtain ⟨k, hkm, hk⟩ := kind_mod v 2 (by decide) (by decide)
  obtain ⟨j, hjm, hj⟩ := kind_mod m 400 (by decide) (by decide)
  let RR : Ending → World → Prop := fun e w' => e = .returned (.bool true) ∧ Below w.heap.size w w'
  go_enter Tryz.func11, Tryz.ntmps11
  generalize hA : ({ tmps := _, defers := [] } : Act) = A
  have F : Fr A 131 [(2, (.int .u32 ((nn : Int)))), (1, (.slice a2 n2 c2)), (0, (.agg #[(.int .i64 v), (.int .i64 m), (.bool b)]))] := by rw [← hA]; exact (Fr.cons (i := 2) (v := (.int .u32 ((nn : Int)))) (Fr.cons (i := 1) (v := (.slice a2 n2 c2)) (Fr.cons (i := 0) (v := (.agg #[(.int .i64 v), (.int .i64 m), (.bool b)])) (Fr.nil0 rfl rfl) rfl) rfl) rfl)
  clear hA; have H := Hp.start w
  refine wp_seq_k (fun K1 hK1 => gx_region ?_)
  refine hz_new (c := #[(.int .i64 v), (.int .i64 m), (.bool b)]) (t := 62) F H rfl (ex_box rfl (F.e rfl) (gx_box _ _)) ?_; clear F A; intro cf W A hk hN H9 F; clear H; have H := H9; clear H9
  clear hk hN
  refine zd ?_; clear F A; intro A F
  refine wpList_nil (hK1 _ _ ?_)
  refine wp_seq_k (fun K2 hK2 => gx_region ?_)
  refine hz_do F rfl (ex_load rfl (F.e rfl) (gl_agg (#[(.int .i64 v), (.int .i64 m), (.bool b)]) rfl (ga_62 _) (gs_62 _) (fun i => H.cs 0 rfl i))) ?_; clear F A; intro A F
  refine hz_callk F H rfl (ex_call rfl rfl (gx_l1 (F.e rfl) gx_l0) fn_31) (cfix_any hkm hk hjm hj _) ?_; clear F H A; intro W A hk H F
  clear hk
  obtain ⟨W9, hr, hB, hk⟩ := gx_storeAgg (P := Tryz.prog) (S := 62) (c := #[(.int .i64 (4 + (k : Int))), (.int .i64 (2 + (j : Int))), (.bool b)]) _ (H.b.at_ (j := 0) rfl).1 (gs_62 _) rfl (by simp [Value.oneCell'])
  refine hz_st (ex_store rfl (F.e rfl) (F.e rfl) hr) ?_; clear hr; replace H : Hp _ _ [_] := Hp.turn [] H hk hB; clear hk hB
  refine wpList_nil (hK2 _ _ ?_)
  refine wp_seq_k (fun K4 hK4 => gx_region ?_)
  iterate 4 (refine zd ?_; clear F A; intro A F)
  refine hz_callX (fun (b9 : Nat) => [⟨b9, 147, #[.int .i64 (4 + (k : Int)), .int .i64 (2 + (j : Int)), .bool false, .slice none 0 0, .int .i64 0]⟩, ⟨cf, 62, #[(.int .i64 (4 + (k : Int))), (.int .i64 (2 + (j : Int))), (.bool b)]⟩]) (NewX _ (4 + (k : Int)) (2 + (j : Int)) false) F rfl (ex_call rfl rfl (gx_l1 (F.e rfl) (gx_l1 (F.e rfl) (gx_l1 gx_evc gx_l0))) fn_32) (fnew_X (show NewOk (4 + (k : Int)) (2 + (j : Int)) from ⟨by omega, by omega⟩) false _) (fun b9 _ _ h => Hp.add H h.k h.fb h.lo) ?_; clear F H A; intro f1 vv W A hR H F; obtain ⟨rfl, hlo1, -, hk9⟩ := hR
  clear hk9
  obtain ⟨Bf1, hBf1⟩ : ∃ n, n = W.heap.size := ⟨_, rfl⟩
  have hBh1 : w.heap.size ≤ Bf1 := by rw [hBf1]; exact H.size
  have hBw1 : Bf1 ≤ W.heap.size := by rw [hBf1]; exact Nat.le_refl _
  have hO1 : W.ownsRow Bf1 5 1 (.slice none ([] : List UInt8).length 0) ([] : List UInt8).length (B8 []) := own_nil _
  iterate 5 (refine zd ?_; clear F A; intro A F)
  refine wpList_nil (hK4 _ _ ?_)
  refine wp_seq_k (fun K5 hK5 => ?_)
  refine wp_seq_k (fun K6 hK6 => gx_region ?_)
  refine zd ?_; clear F A; intro A F
  refine hz_do (v := (.bool false)) F rfl (ex_bin rfl (F.e rfl) gx_evc (rn_pn _ _ _ _)) ?_; clear F A; intro A F
  refine zd ?_; clear F A; intro A F
  refine hz_callk1 F H rfl (hw_f (X := false) F rfl rfl rfl) (ex_call rfl rfl gx_l0 fn_33) (told10_any _ (hT.kept H.k)) ?_; clear F H A; intro W A hk H F
  replace hO1 := own_keptNo hO1 hk
  replace hBw1 := Nat.le_trans hBw1 hk.size
  clear hk
  refine hz_do1 F rfl (hw_f (X := false) F rfl rfl rfl) (ex_not rfl (F.e rfl)) ?_; clear F A; intro A F
  refine hz_do F rfl (ex_pickF rfl (F.e rfl) (F.e rfl)) ?_; clear F A; intro A F
  refine wpList_nil (hK6 _ _ ?_)
  refine wp_cond_false (F.e rfl) ?_
  refine wp_skip (hK5 _ _ ?_)
  refine wp_seq_k (fun K8 hK8 => ?_)
  refine wp_seq_k (fun K9 hK9 => gx_region ?_)
  refine zd ?_; clear F A; intro A F
  refine wpList_nil (hK9 _ _ ?_)
  refine wp_block ?_
  refine hz_loop (fun (i : Nat) A W => ∃ hax : Option Addr, ∃ hcx : Nat, ∃ fx : Bool, ∃ hx : List UInt8, ∃ ex : Int, Fr A 131 [(1, (.slice a2 n2 c2)), (2, (.int .u32 ((nn : Int)))), (3, (.pointer (some ⟨cf, 0, none⟩))), (6, (.bool false)), (7, (.pointer (some ⟨f1, 0, none⟩))), (9, (.int .i64 ((i : Int))))] ∧ Hp w W [⟨f1, 147, #[(.int .i64 (4 + (k : Int))), (.int .i64 (2 + (j : Int))), (.bool fx), (.slice hax hx.length hcx), (.int .i64 ex)]⟩, ⟨cf, 62, #[(.int .i64 (4 + (k : Int))), (.int .i64 (2 + (j : Int))), (.bool b)]⟩] ∧ (W.ownsRow Bf1 5 1 (.slice hax hx.length hcx) hx.length (B8 hx)) ∧ (Bf1 ≤ W.heap.size) ∧ (Wt (4 + (k : Int)) (2 + (j : Int)) ⟨fx, hx, ex⟩)) (fun i => n2 - i) 0 ⟨none, 0, false, [], 0, ((((((F.nil.cons (gx_is (F.g 9 _ rfl) (by rfl))).cons (F.g 7 _ rfl)).cons (F.g 6 _ rfl)).cons (F.g 3 _ rfl)).cons (F.g 2 _ rfl)).cons (F.g 1 _ rfl)), H, hO1, hBw1, wt_start _ _ _⟩ (fun i A W hI J10 hJ10 => ?_)
  clear F H; obtain ⟨hax, hcx, fx, hx, ex, F, H, hO1, hBw1, hWt⟩ := hI
  refine wp_seq_k (fun K11 hK11 => ?_)
  refine wp_seq_k (fun K12 hK12 => gx_region ?_)
  iterate 2 (refine zd ?_; clear F A; intro A F)
  refine hz_do F rfl (ex_len rfl (gx_l1 (F.e rfl) gx_l0) (rn_lens Tryz.underlying63)) ?_; clear F A; intro A F
  refine zb (rn_lssN (i := i) (j := n2)) ?_; clear F A; intro A F
  refine zd ?_; clear F A; intro A F
  refine zg ?_; clear F A; intro A F
  refine zgb (rn_lssN (i := i) (j := 40)) ?_; clear F A; intro A F
  refine hz_do F rfl (ex_pickA rfl (F.e rfl) (fun hx => (F.o rfl hx)) rfl) ?_; clear F A; intro A F
  refine wpList_nil (hK12 _ _ ?_)
  refine zc (fun hb13 => ?_) (fun hb13 => ?_)
  · skip
    refine wp_skip (hK11 _ _ ?_)
    refine wp_seq_k (fun K14 hK14 => ?_)
    refine wp_block ?_
    refine wp_seq_k (fun K15 hK15 => ?_)
    have hi : i < n2 := by have h9 := hb13; rw [Bool.and_eq_true, decide_eq_true_eq] at h9; exact h9.1
    obtain ⟨b2, o2, ha2, hcl2⟩ := bss_at hs2 hi
    obtain ⟨a6, hsl6, hr6, hn6, hc6⟩ := slice_takeW (z.1 i) (z.2.2 i) (z.2.1 i) 300 (hs2.2.2.2.2 i hi).2.2
    obtain ⟨I9, f9x, h9x, e9x, hfd9⟩ : ∃ I f h e, feedS (4 + (k : Int)) (2 + (j : Int)) ⟨fx, hx, ex⟩ ((z.2.1 i).take 300) = (I, ⟨f, h, e⟩) := ⟨_, _, _, _, rfl⟩
    refine wp_region_held_drew (S := fun wx => ∃ c9, Hp _ wx [⟨f1, 147, c9⟩, _]) (by kernel_rfl) ⟨_, H.drew⟩ (fun H9 => ?_); clear H9; replace H := H.drew
    replace hO1 := own_keptNo hO1 (Kept.refl No _).drew
    replace hBw1 := Nat.le_trans hBw1 (Kept.refl No _).drew.size
    generalize World.drew _ = W at *
    refine td 0 ?_; clear F A; intro A F
    refine td 1 ?_; clear F A; intro A F
    refine td 2 ?_; clear F A; intro A F
    refine hzh_do (v := (.pointer (some ⟨b2, o2 + i * 1, none⟩))) (i := 3) F rfl rfl (by kernel_rfl) (fun _ _ _ h => h) (⟨_, H⟩) (fun wz ⟨c9, H⟩ => (ex_idxaddr rfl (((F.e rfl)).trans (show _ = Value.slice (some ⟨b2, o2, none⟩) n2 c2 from by rw [← ha2])) (F.e rfl) (rn_idx Tryz.underlying63 (gs1_25 _) hi))) ?_; clear F A; intro A F
    refine hzh_do (v := (.slice ((z.1 i)) ((z.2.1 i).length) ((z.2.2 i)))) (i := 4) F rfl rfl (by kernel_rfl) (fun _ _ _ h => h) (⟨_, H⟩) (fun wz ⟨c9, H⟩ => (ex_load rfl (F.e rfl) (gl_one (ag_25 _) (hcl2 _ H.k)))) ?_; clear F A; intro A F
    refine td 5 ?_; clear F A; intro A F
    refine td 6 ?_; clear F A; intro A F
    refine hzh_do (v := (.pointer (some ⟨b2, o2 + i * 1, none⟩))) (i := 7) F rfl rfl (by kernel_rfl) (fun _ _ _ h => h) (⟨_, H⟩) (fun wz ⟨c9, H⟩ => (ex_idxaddr rfl (((F.e rfl)).trans (show _ = Value.slice (some ⟨b2, o2, none⟩) n2 c2 from by rw [← ha2])) (F.e rfl) (rn_idx Tryz.underlying63 (gs1_25 _) hi))) ?_; clear F A; intro A F
    refine hzh_do (v := (.slice ((z.1 i)) ((z.2.1 i).length) ((z.2.2 i)))) (i := 8) F rfl rfl (by kernel_rfl) (fun _ _ _ h => h) (⟨_, H⟩) (fun wz ⟨c9, H⟩ => (ex_load rfl (F.e rfl) (gl_one (ag_25 _) (hcl2 _ H.k)))) ?_; clear F A; intro A F
    refine hzh_do (v := (.int .i64 ((((z.2.1 i).length) : Int)))) (i := 9) F rfl rfl (by kernel_rfl) (fun _ _ _ h => h) (⟨_, H⟩) (fun wz ⟨c9, H⟩ => (ex_len rfl (gx_l1 (F.e rfl) gx_l0) (rn_lens Tryz.underlying25))) ?_; clear F A; intro A F
    refine hzh_do (v := (.int .i64 (((min (z.2.1 i).length 300 : Nat) : Int)))) (i := 10) F rfl rfl (by kernel_rfl) (fun _ _ _ h => h) (⟨_, H⟩) (fun wz ⟨c9, H⟩ => (ex_minN rfl (gx_l1 (F.e rfl) (gx_l1 gx_evc gx_l0)))) ?_; clear F A; intro A F
    refine hzh_do (v := (.slice a6 (((z.2.1 i).take 300).length) ((z.2.2 i)))) (i := 11) F rfl rfl (by kernel_rfl) (fun _ _ _ h => h) (⟨_, H⟩) (fun wz ⟨c9, H⟩ => (ex_slice rfl (F.e rfl) rfl (congrArg some (F.e rfl)) rfl (hsl6 _))) ?_; clear F A; intro A F
    refine hb_one (i := 12) (by kernel_rfl) (hb_callX (i := 12) (fun (x : List It × (Option Addr × Nat) × (Option Addr × Nat)) => [⟨f1, 147, #[.int .i64 (4 + (k : Int)), .int .i64 (2 + (j : Int)), .bool f9x, .slice x.2.2.1 h9x.length x.2.2.2, .int .i64 e9x]⟩, ⟨cf, 62, #[(.int .i64 (4 + (k : Int))), (.int .i64 (2 + (j : Int))), (.bool b)]⟩]) (FeedR _ f1 (4 + (k : Int)) (2 + (j : Int)) Bf1 (.slice hax hx.length hcx) I9 f9x h9x e9x) F rfl rfl (ex_call rfl rfl (gx_l1 (F.e rfl) (gx_l1 (F.e rfl) gx_l0)) fn_34) (feed_any w _ f1 (4 + (k : Int)) (2 + (j : Int)) fx ex hax hcx hx Bf1 hBh1 hBw1 ⟨H.k, (H.b.at_ (j := 0) rfl).1, (H.b.at_ (j := 0) rfl).2, by simp, trivial⟩ hO1 a6 ((z.2.2 i)) (((z.2.1 i).take 300)) ((hr6 _ ((hs2.2.2.2.2 i hi).1.keptNo H.k))) ((hn6 (hs2.2.2.2.2 i hi).2.1)) ((by have := wt_len hWt; dsimp only at this; simp only [List.length_take]; omega)) (hT.kept (Kept.refl _ _)) I9 f9x h9x e9x hfd9) (fun x9 _ _ h => Hp.re H h.k (geT9 (H.b.at_ (j := 0) rfl).2 hBh1 hO1) ⟨⟨rfl, fun _ => h.fb⟩, ⟨kT9 h.k (H.b.at_ (j := 0) rfl).1 (ne9 rfl) hO1 (ne9 rfl), trivial⟩⟩) (fun _ _ H => ⟨_, H⟩) ?_); clear F H A; intro x9 vv W A hR H F
    obtain ⟨L16, ⟨ia16, ic16⟩, ha16, hc16⟩ := x9; try dsimp only at H
    obtain ⟨rfl, hLm16, hI16, hBy16, -, hO9, hk9⟩ := hR; try dsimp only at hLm16 hI16 hBy16 hO9 F
    replace hBw1 := Nat.le_trans hBw1 hk9.size
    clear hO1; have hO1 := hO9; clear hO9 hk9
    have hWt9 := feedS_wt hfd9 hWt
    refine wpAnyH_done (by kernel_rfl) ?_ _
    refine hK15 _ _ ?_
    refine wp_seq_k (fun K17 hK17 => ?_)
    refine wp_region_held_drew (S := fun wx => Hp _ wx _) (by kernel_rfl) H.drew (fun H9 => ?_); clear H; have H := H9; clear H9
    replace hO1 := own_keptNo hO1 (Kept.refl No _).drew
    replace hBw1 := Nat.le_trans hBw1 (Kept.refl No _).drew.size
    generalize World.drew _ = W at *
    refine td 0 ?_; clear F A; intro A F
    refine td 2 ?_; clear F A; intro A F
    refine td 3 ?_; clear F A; intro A F
    refine hzh_do (v := (.int .i64 (max (2 + (j : Int)) 4))) (i := 4) F rfl rfl (by kernel_rfl) (fun _ _ _ h => h) (H) (fun wz H => (ex_maxI rfl (gx_l1 (F.e rfl) (gx_l1 gx_evc gx_l0)))) ?_; clear F A; intro A F
    refine hb_one (i := 1) (by kernel_rfl) (hb_callk (i := 1) F rfl rfl (ex_call rfl rfl (gx_l1 (F.e rfl) gx_l0) fn_38) (fheld_any (H.b.at_ (j := 0) rfl).1) (fun _ hk => (H.kept hk)) ?_); clear F A; intro W A hk _ F; replace H := H.kept hk
    replace hO1 := own_keptNo hO1 hk
    replace hBw1 := Nat.le_trans hBw1 hk.size
    clear hk
    refine hzh_do (i := 5) F rfl rfl (by kernel_rfl) (fun _ _ _ h => h) (H) (fun wz H => (ex_bin rfl (F.e rfl) (F.e rfl) (rn_gtr))) ?_; clear F A; intro A F
    have hr19 : (decide (max (2 + (j : Int)) 4 < (h9x.length : Int))) = false := (decide_eq_false (by have := wt_len hWt9; dsimp only at this; omega))
    replace F := F.hd (congrArg Value.bool hr19)
    refine td 6 ?_; clear F A; intro A F
    refine hzh_do1 (i := 7) F rfl rfl (by kernel_rfl) (fun _ _ _ h => h) (H) (hw_f (X := false) F rfl rfl rfl) (fun wz H => (ex_move rfl (F.e rfl))) ?_; clear F A; intro A F
    refine hzh_callk1 (i := 8) F rfl rfl (by kernel_rfl) (hw_f (X := false) F rfl rfl rfl) (ex_call rfl rfl (gx_l1 (F.e rfl) gx_l0) fn_39) (ferr_any (H.b.at_ (j := 0) rfl).1) (fun _ hk => H.kept hk) ?_; clear F H A; intro W A hk H F
    replace hO1 := own_keptNo hO1 hk
    replace hBw1 := Nat.le_trans hBw1 hk.size
    clear hk
    refine hzh_do1 (i := 9) F rfl rfl (by kernel_rfl) (fun _ _ _ h => h) (H) (hw_f (X := false) F rfl rfl rfl) (fun wz H => (ex_bin rfl (F.e rfl) gx_evc (rn_neq))) ?_; clear F A; intro A F
    refine hzh_do1 (i := 10) F rfl rfl (by kernel_rfl) (fun _ _ _ h => h) (H) (hw_f (X := false) F rfl rfl rfl) (fun wz H => (ex_move rfl (F.e rfl))) ?_; clear F A; intro A F
    refine hzh_g (i := 11) F rfl rfl (by kernel_rfl) (fun _ _ _ _ h => h) (H) (hw_t F rfl rfl rfl) (fun hG wz H => (ex_move rfl (F.e rfl))) ?_; clear F A; intro A F
    refine hzh_callg (i := 12) F rfl rfl (by kernel_rfl) (hw_t F rfl rfl rfl) (fun hG => (ex_call rfl rfl (gx_l1 (F.o rfl hG) gx_l0) fn_38)) (fun hG => fheld_any (H.b.at_ (j := 0) rfl).1) (fun _ hk => H.kept hk) ?_; clear F H A; intro W A hk H F
    replace hO1 := own_keptNo hO1 hk
    replace hBw1 := Nat.le_trans hBw1 hk.size
    clear hk
    refine hzh_g (i := 13) F rfl rfl (by kernel_rfl) (fun _ _ _ _ h => h) (H) (hw_t F rfl rfl rfl) (fun hG wz H => (ex_bin rfl (F.o rfl hG) gx_evc (rn_neqN (i := h9x.length) (j := 0)))) ?_; clear F A; intro A F
    refine hzh_do1 (i := 14) F rfl rfl (by kernel_rfl) (fun _ _ _ h => h) (H) (hw_f (X := false) F rfl rfl rfl) (fun wz H => (ex_pickA rfl (F.e rfl) (fun hx => (F.o rfl hx)) rfl)) ?_; clear F A; intro A F
    have hr22 : ((!decide (e9x = 0)) && (!decide (h9x.length = 0))) = false := (by by_cases h0 : e9x = 0; simp [h0]; have h9 : h9x = [] := hWt9.1 h0; simp [h9])
    replace F := F.hd (congrArg Value.bool hr22)
    refine hzh_do (i := 15) F rfl rfl (by kernel_rfl) (fun _ _ _ h => h) (H) (fun wz H => (ex_pickF rfl (F.e rfl) (F.e rfl))) ?_; clear F A; intro A F
    refine wpAnyH_done (by kernel_rfl) ?_ _
    refine hK17 _ _ ?_
    refine wp_cond_false (F.e rfl) ?_
    refine wp_skip (hK14 _ _ ?_)
    refine gx_region ?_
    refine zd ?_; clear F A; intro A F
    refine hz_do F rfl (ex_bin rfl (F.e rfl) gx_evc (rn_add (gx_wrap_i64 (by omega) (by omega)))) ?_; clear F A; intro A F
    refine zd ?_; clear F A; intro A F
    refine wpList_nil ?_
    exact hJ10 ((i + 1)) _ _ (by omega) ⟨ha16, hc16, f9x, h9x, e9x, ((((((F.nil.cons (gx_is (F.g 9 _ rfl) (by simp))).cons (F.g 7 _ rfl)).cons (F.g 6 _ rfl)).cons (F.g 3 _ rfl)).cons (F.g 2 _ rfl)).cons (F.g 1 _ rfl)), H, hO1, hBw1, hWt9⟩
  refine wp_exit ?_
  refine hK8 _ _ ?_
  refine wp_seq_k (fun K23 hK23 => ?_)
  replace H : Hp _ _ [_] := Hp.del [] H
  clear hO1
  clear hBw1
  refine gx_region ?_
  iterate 4 (refine zd ?_; clear F A; intro A F)
  refine hz_callX (fun (b9 : Nat) => [⟨b9, 147, #[.int .i64 (4 + (k : Int)), .int .i64 (2 + (j : Int)), .bool false, .slice none 0 0, .int .i64 0]⟩, ⟨cf, 62, #[(.int .i64 (4 + (k : Int))), (.int .i64 (2 + (j : Int))), (.bool b)]⟩]) (NewX _ (4 + (k : Int)) (2 + (j : Int)) false) F rfl (ex_call rfl rfl (gx_l1 (F.e rfl) (gx_l1 (F.e rfl) (gx_l1 gx_evc gx_l0))) fn_32) (fnew_X (show NewOk (4 + (k : Int)) (2 + (j : Int)) from ⟨by omega, by omega⟩) false _) (fun b9 _ _ h => Hp.add H h.k h.fb h.lo) ?_; clear F H A; intro f2 vv W A hR H F; obtain ⟨rfl, hlo2, -, hk9⟩ := hR
  clear hk9
  obtain ⟨Bf2, hBf2⟩ : ∃ n, n = W.heap.size := ⟨_, rfl⟩
  have hBh2 : w.heap.size ≤ Bf2 := by rw [hBf2]; exact H.size
  have hBw2 : Bf2 ≤ W.heap.size := by rw [hBf2]; exact Nat.le_refl _
  have hO2 : W.ownsRow Bf2 5 1 (.slice none ([] : List UInt8).length 0) ([] : List UInt8).length (B8 []) := own_nil _
  iterate 5 (refine zd ?_; clear F A; intro A F)
  refine wpList_nil (hK23 _ _ ?_)
  refine wp_seq_k (fun K24 hK24 => ?_)
  clear hO2
  clear hBw2
  obtain ⟨size, hsz⟩ : ∃ size : Nat, size = 1 + nn % 2000000 := ⟨_, rfl⟩; have hs1 : 1 ≤ size := by omega
  have hs3 : size ≤ 2000000 := by omega
  refine gx_region ?_
  refine zd ?_; clear F A; intro A F
  refine zb (rn_remN (i := nn) (j := 2000000) (by decide)) ?_; clear F A; intro A F
  refine hz_do (v := (.int .i64 (((nn % 2000000 : Nat) : Int)))) F rfl (ex_conv rfl (F.e rfl) (cv9_32 _ _ (by omega))) ?_; clear F A; intro A F
  refine hz_do (v := (.int .i64 ((size : Int)))) F rfl (ex_bin rfl gx_evc (F.e rfl) (by rw [hsz]; exact rn_add (gx_wrap_i64 (by omega) (by omega)))) ?_; clear F A; intro A F
  refine zd ?_; clear F A; intro A F
  refine wpList_nil (hK24 _ _ ?_)
  refine wp_seq_k (fun K25 hK25 => gx_region ?_)
  refine hz_bs (c := #[.int .u8 48]) (t := 5) (m := 1) F H rfl (ex_buildSlice rfl (gx_p1 gx_evc gx_p0) (by kernel_rfl)) ?_; clear F A; intro b26 W A hk hN H9 F; clear H; have H := H9; clear H9
  clear hk hN
  refine zd ?_; clear F A; intro A F
  refine wpList_nil (hK25 _ _ ?_)
  refine wp_seq_k (fun K27 hK27 => ?_)
  refine wp_seq_k (fun K28 hK28 => ?_)
  have hHd := own_madeJ (k := 1) (m := 1) H (j := 0) rfl rfl (by decide)
  replace H : Hp _ _ [_, _] := Hp.del [] H
  refine gx_region ?_
  iterate 2 (refine zd ?_; clear F A; intro A F)
  refine wpList_nil (hK28 _ _ ?_)
  refine wp_block ?_
  refine hz_loop (fun (mm : Nat) A W => ∃ hA : List UInt8, ∃ ha9 : Option Addr, ∃ hc9 : Nat, Fr A 131 [(3, (.pointer (some ⟨cf, 0, none⟩))), (6, (.bool false)), (10, (.pointer (some ⟨f2, 0, none⟩))), (12, (.int .i64 ((size : Int)))), (13, (.slice ha9 ((48 :: hA).length) hc9)), (14, (.int .i64 ((mm : Int))))] ∧ Hp w W [⟨f2, 147, #[(.int .i64 (4 + (k : Int))), (.int .i64 (2 + (j : Int))), (.bool false), (.slice none (([] : List UInt8).length) 0), (.int .i64 0)]⟩, ⟨cf, 62, #[(.int .i64 (4 + (k : Int))), (.int .i64 (2 + (j : Int))), (.bool b)]⟩] ∧ W.ownsRow w.heap.size 5 1 (.slice ha9 ((48 :: hA).length) hc9) ((48 :: hA).length) ((B8 (48 :: hA))) ∧ ((0 < mm → var7 size = hA ++ var7 mm) ∧ (mm = 0 → var7 size = hA)) ∧ (mm ≤ size) ∧ (hA.length + mm ≤ size)) (fun mm => mm) size ⟨[], (some ⟨b26, 0, none⟩), 1, ((((((F.nil.cons (gx_is (F.g 14 _ rfl) (by rfl))).cons (gx_is (F.g 13 _ rfl) (by rfl))).cons (F.g 12 _ rfl)).cons (F.g 10 _ rfl)).cons (F.g 6 _ rfl)).cons (F.g 3 _ rfl)), H, hHd, ⟨fun _ => rfl, fun h9 => absurd h9 (by omega)⟩, Nat.le_refl _, (by simp)⟩ (fun mm A W hI J29 hJ29 => ?_)
  clear F H hHd; obtain ⟨hA, ha9, hc9, F, H, hHd, hV, hmm, hAl⟩ := hI
  refine wp_seq_k (fun K30 hK30 => ?_)
  refine wp_seq_k (fun K31 hK31 => gx_region ?_)
  refine zd ?_; clear F A; intro A F
  refine zb (rn_gtrN (i := mm) (j := 0)) ?_; clear F A; intro A F
  refine wpList_nil (hK31 _ _ ?_)
  refine zc (fun hb32 => ?_) (fun hb32 => ?_)
  · skip
    refine wp_skip (hK30 _ _ ?_)
    refine wp_seq_k (fun K33 hK33 => ?_)
    refine wp_block ?_
    refine wp_seq_k (fun K34 hK34 => ?_)
    have h0m : 0 < mm := by have h9 := of_decide_eq_true hb32; omega
    refine gx_region ?_
    refine zd ?_; clear F A; intro A F
    refine zb (rn_remN (i := mm) (j := 128) (by decide)) ?_; clear F A; intro A F
    refine hz_do (v := (.int .u8 (((mm % 128 : Nat) : Int)))) F rfl (ex_conv rfl (F.e rfl) (cvI8 _ _ (by omega) (by omega))) ?_; clear F A; intro A F
    refine zd ?_; clear F A; intro A F
    refine wpList_nil (hK34 _ _ ?_)
    refine hz_cut (fun A W => ∃ d : Nat, Fr A 131 [(3, (.pointer (some ⟨cf, 0, none⟩))), (6, (.bool false)), (10, (.pointer (some ⟨f2, 0, none⟩))), (12, (.int .i64 ((size : Int)))), (13, (.slice ha9 ((48 :: hA).length) hc9)), (14, (.int .i64 ((mm : Int)))), (15, (.int .u8 ((d : Int)))), (87, (.int .i64 ((mm : Int)))), (88, (.bool (decide (0 < mm)))), (91, (.int .i64 ((mm : Int)))), (92, (.int .i64 (((mm % 128 : Nat) : Int)))), (93, (.int .u8 (((mm % 128 : Nat) : Int))))] ∧ Hp w W [⟨f2, 147, #[(.int .i64 (4 + (k : Int))), (.int .i64 (2 + (j : Int))), (.bool false), (.slice none (([] : List UInt8).length) 0), (.int .i64 0)]⟩, ⟨cf, 62, #[(.int .i64 (4 + (k : Int))), (.int .i64 (2 + (j : Int))), (.bool b)]⟩] ∧ W.ownsRow w.heap.size 5 1 (.slice ha9 ((48 :: hA).length) hc9) ((48 :: hA).length) ((B8 (48 :: hA))) ∧ (d = if mm < 128 then mm else mm % 128 + 128) ∧ (d < 256)) (fun A W hM => ?_) (fun K35 hK35 => ?_)
    rotate_left
    · skip
      refine wp_seq_k (fun K36 hK36 => gx_region ?_)
      refine zd ?_; clear F A; intro A F
      refine zb (rn_geqN (i := mm) (j := 128)) ?_; clear F A; intro A F
      refine wpList_nil (hK36 _ _ ?_)
      refine zc (fun hb37 => ?_) (fun hb37 => ?_)
      · skip
        refine gx_region ?_
        refine zd ?_; clear F A; intro A F
        refine hz_do F rfl (ex_bin rfl (F.e rfl) gx_evc (rn_add (gx_wrap_u8 (by omega) (by omega)))) ?_; clear F A; intro A F
        refine zd ?_; clear F A; intro A F
        refine wpList_nil ?_
        exact hK35 _ _ ⟨(mm % 128 + 128), ((((((((((((F.nil.cons (F.g 93 _ rfl)).cons (F.g 92 _ rfl)).cons (F.g 91 _ rfl)).cons (F.g 88 _ rfl)).cons (F.g 87 _ rfl)).cons (gx_is (F.g 15 _ rfl) (congrArg (Value.int .u8) (by omega)))).cons (F.g 14 _ rfl)).cons (F.g 13 _ rfl)).cons (F.g 12 _ rfl)).cons (F.g 10 _ rfl)).cons (F.g 6 _ rfl)).cons (F.g 3 _ rfl)), H, hHd, (by have h9 := of_decide_eq_true hb37; rw [if_neg (by omega)]), (by omega)⟩
      refine wp_skip ?_
      exact hK35 _ _ ⟨mm, ((((((((((((F.nil.cons (F.g 93 _ rfl)).cons (F.g 92 _ rfl)).cons (F.g 91 _ rfl)).cons (F.g 88 _ rfl)).cons (F.g 87 _ rfl)).cons (gx_is (F.g 15 _ rfl) (congrArg (Value.int .u8) (by have h9 := of_decide_eq_false hb37; omega)))).cons (F.g 14 _ rfl)).cons (F.g 13 _ rfl)).cons (F.g 12 _ rfl)).cons (F.g 10 _ rfl)).cons (F.g 6 _ rfl)).cons (F.g 3 _ rfl)), H, hHd, (by have h9 := of_decide_eq_false hb37; rw [if_pos (by omega)]), (by have h9 := of_decide_eq_false hb37; omega)⟩
    clear F H hHd; obtain ⟨d, F, H, hHd, hd, hd8⟩ := hM
    refine gx_region ?_
    iterate 2 (refine zd ?_; clear F A; intro A F)
    refine hz_bs (c := #[.int .u8 (d : Int)]) (t := 5) (m := 1) F H rfl (ex_buildSlice rfl (gx_p1 (F.e rfl) gx_p0) (by kernel_rfl)) ?_; clear F A; intro b38 W A hk hN H9 F; clear H; have H := H9; clear H9
    have hne_hHd_b38 := og_lt hHd hN
    replace hHd := og_kept hHd hk
    clear hk hN
    obtain ⟨i0, hi, hz0, hz1, hz2⟩ := info_parts info_u8
    obtain ⟨v9, W9, hrun, hO9, hg, _⟩ := run_append_own (P := Tryz.prog) _ w.heap.size 25 25 5 i0 _ 1 1 Tryz.underlying25 hi hz0 hz1 hz2 rfl (by decide) (.slice ha9 (48 :: hA).length hc9) (48 :: hA).length (B8 (48 :: hA)) hHd ⟨b38, 0, none⟩ 1 1 [.int .u8 (d : Int)] rfl (blk_news (H.b.at_ (j := 0) rfl).1) (one_all rfl) (by unfold maxLen; simp only [List.length_cons]; omega) (by simp only [List.length_cons]; omega) H.size
    rw [show B8 (48 :: hA) ++ [Value.int .u8 (d : Int)] = B8 (48 :: (hA ++ [byteOf (d : Int)])) by rw [← b8_one hd8]; exact (B8_append (48 :: hA) _).symm, show (48 :: hA).length + 1 = (48 :: (hA ++ [byteOf (d : Int)])).length by simp] at hO9
    have hkS := kept_grown hg; obtain ⟨a9, c9, hv9⟩ := own_slice hO9; subst hv9
    refine hz_do F rfl (ex_builtin rfl (gx_l1 (F.e rfl) (gx_l1 (F.e rfl) gx_l0)) (fun cs => by simp only [builtin]; exact gx_val hrun)) ?_; clear F A; intro A F
    replace H := Hp.grown H hHd hkS (fa1 (sv_lt hne_hHd_b38) (fa1 (sv_type hHd (H.b.at_ (j := 1) rfl).1 (ne9 rfl)) (fa1 (sv_type hHd (H.b.at_ (j := 2) rfl).1 (ne9 rfl)) fa0)))
    clear hrun hg hkS; clear hHd; have hHd := hO9; clear hO9; generalize W9 = W at *
    refine zd ?_; clear F A; intro A F
    refine wpList_nil (hK33 _ _ ?_)
    refine gx_region ?_
    refine zd ?_; clear F A; intro A F
    refine hz_do F rfl (ex_bin rfl (F.e rfl) gx_evc (rn_quoN (i := mm) (j := 128) (by decide) (gx_wrap_i64 (by omega) (by omega)))) ?_; clear F A; intro A F
    refine zd ?_; clear F A; intro A F
    refine wpList_nil ?_
    exact hJ29 ((mm / 128)) _ _ (by omega) ⟨(hA ++ [byteOf (d : Int)]), a9, c9, ((((((F.nil.cons (gx_is (F.g 14 _ rfl) (by simp))).cons (F.g 13 _ rfl)).cons (F.g 12 _ rfl)).cons (F.g 10 _ rfl)).cons (F.g 6 _ rfl)).cons (F.g 3 _ rfl)), H.tl, hHd, var7_step hV h0m hd, (by omega), (by rw [List.length_append, List.length_singleton]; omega)⟩
  refine wp_exit ?_
  refine hK27 _ _ ?_
  refine wp_seq_k (fun K39 hK39 => ?_)
  have hm0 : mm = 0 := by have h9 := of_decide_eq_false hb32; omega
  have hVA := hV.2 hm0; have hAl9 : hA.length ≤ 2000000 := by omega
  obtain ⟨I8, f8x, h8x, e8x, hfd8⟩ : ∃ I f h e, feedS (4 + (k : Int)) (2 + (j : Int)) ⟨false, [], 0⟩ (48 :: hA) = (I, ⟨f, h, e⟩) := ⟨_, _, _, _, rfl⟩
  have hlen9 : (48 :: hA).length ≤ 100000 := by rw [← hVA]; have := var7_four hs3; simp only [List.length_cons]; omega
  obtain ⟨Bf9, hBf9⟩ : ∃ n, n = W.heap.size := ⟨_, rfl⟩
  have hBh9 : w.heap.size ≤ Bf9 := by rw [hBf9]; exact H.size
  have hBw9 : Bf9 ≤ W.heap.size := by rw [hBf9]; exact Nat.le_refl _
  have hO9z : W.ownsRow Bf9 5 1 (.slice none ([] : List UInt8).length 0) ([] : List UInt8).length (B8 []) := own_nil _
  refine gx_region ?_
  iterate 2 (refine zd ?_; clear F A; intro A F)
  refine hz_callX (fun (x : List It × (Option Addr × Nat) × (Option Addr × Nat)) => [⟨f2, 147, #[.int .i64 (4 + (k : Int)), .int .i64 (2 + (j : Int)), .bool f8x, .slice x.2.2.1 h8x.length x.2.2.2, .int .i64 e8x]⟩, ⟨cf, 62, #[(.int .i64 (4 + (k : Int))), (.int .i64 (2 + (j : Int))), (.bool b)]⟩]) (FeedR _ f2 (4 + (k : Int)) (2 + (j : Int)) Bf9 (.slice none (([] : List UInt8)).length 0) I8 f8x h8x e8x) F rfl (ex_call rfl rfl (gx_l1 (F.e rfl) (gx_l1 (F.e rfl) gx_l0)) fn_34) (feed_any w _ f2 (4 + (k : Int)) (2 + (j : Int)) false 0 none 0 (([] : List UInt8)) Bf9 hBh9 hBw9 ⟨H.k, (H.b.at_ (j := 0) rfl).1, (H.b.at_ (j := 0) rfl).2, by simp, trivial⟩ hO9z ha9 hc9 ((48 :: hA)) ((own_row hHd).1) ((own_row hHd).2) ((by simp only [List.length_nil]; omega)) (hT.kept (Kept.refl _ _)) I8 f8x h8x e8x hfd8) (fun x9 _ _ h => Hp.re H h.k (geT9 (H.b.at_ (j := 0) rfl).2 hBh9 hO9z) ⟨⟨rfl, fun _ => h.fb⟩, ⟨kT9 h.k (H.b.at_ (j := 0) rfl).1 (ne9 rfl) hO9z (ne9 rfl), trivial⟩⟩) ?_; clear F H A; intro x9 vv W A hR H F
  obtain ⟨L40, ⟨ia40, ic40⟩, ha40, hc40⟩ := x9; try dsimp only at H
  obtain ⟨rfl, hLm40, hI40, hBy40, -, hO9, hk9⟩ := hR; try dsimp only at hLm40 hI40 hBy40 hO9 F
  replace hBw9 := Nat.le_trans hBw9 hk9.size
  clear hO9z; have hO9z := hO9; clear hO9 hk9
  have hfdV := hfd8; rw [← hVA] at hfdV; have hP := holds_fd hs1 hs3 hfdV; rw [hVA] at hP
  iterate 5 (refine zd ?_; clear F A; intro A F)
  refine wpList_nil (hK39 _ _ ?_)
  refine wp_seq_k (fun K41 hK41 => ?_)
  refine wp_seq_k (fun K42 hK42 => gx_region ?_)
  iterate 2 (refine zd ?_; clear F A; intro A F)
  refine hz_do F rfl (ex_len rfl (gx_l1 (F.e rfl) gx_l0) (rn_lens Tryz.underlying25)) ?_; clear F A; intro A F
  refine hz_do F rfl (ex_bin rfl (F.e rfl) (F.e rfl) (rn_add (gx_wrap_i64 (by omega) (by omega)))) ?_; clear F A; intro A F
  iterate 2 (refine zd ?_; clear F A; intro A F)
  refine zb (rn_gtr) ?_; clear F A; intro A F
  refine wpList_nil (hK42 _ _ ?_)
  refine zc (fun hb43 => ?_) (fun hb43 => ?_)
  · skip
    refine wp_seq_k (fun K44 hK44 => gx_region ?_)
    refine zd ?_; clear F A; intro A F
    refine zb (rn_eql) ?_; clear F A; intro A F
    refine zd ?_; clear F A; intro A F
    refine zg ?_; clear F A; intro A F
    refine hz_callg F H rfl (hw_t F rfl rfl rfl) (fun hG => (ex_call rfl rfl (gx_l1 (F.o rfl hG) gx_l0) fn_38)) (fun hG => fheld_any (H.b.at_ (j := 0) rfl).1) ?_; clear F H A; intro W A hk H F
    replace hO9z := own_keptNo hO9z hk
    replace hBw9 := Nat.le_trans hBw9 hk.size
    clear hk
    refine zgb (rn_eqlN (i := h8x.length) (j := 0)) ?_; clear F A; intro A F
    refine hz_do F rfl (ex_pickA rfl (F.e rfl) (fun hx => (F.o rfl hx)) rfl) ?_; clear F A; intro A F
    refine zd ?_; clear F A; intro A F
    refine wpList_nil (hK44 _ _ ?_)
    refine gx_ret ?_
    refine (show bodyPost _ Tryz.f11 RR Exit.ret _ _ from zr ?_)
    exact ⟨congrArg (fun b => Ending.returned (.bool b)) (by obtain ⟨q1, q2⟩ := hP.1 (of_decide_eq_true hb43); rw [q1, q2]; simp), H.k.below (Nat.le_refl _) (fun _ _ f9 => f9)⟩
  refine wp_skip (hK41 _ _ ?_)
  refine wp_seq_k (fun K46 hK46 => gx_region ?_)
  refine zd ?_; clear F A; intro A F
  refine zb (rn_eql) ?_; clear F A; intro A F
  refine zd ?_; clear F A; intro A F
  refine zg ?_; clear F A; intro A F
  refine hz_callg F H rfl (hw_t F rfl rfl rfl) (fun hG => (ex_call rfl rfl (gx_l1 (F.o rfl hG) gx_l0) fn_38)) (fun hG => fheld_any (H.b.at_ (j := 0) rfl).1) ?_; clear F H A; intro W A hk H F
  replace hO9z := own_keptNo hO9z hk
  replace hBw9 := Nat.le_trans hBw9 hk.size
  clear hk
  refine zg ?_; clear F A; intro A F
  refine hz_g F rfl (hw_t F rfl rfl rfl) (fun hG => (ex_len rfl (gx_l1 (F.o rfl hG) gx_l0) (rn_lens Tryz.underlying25))) ?_; clear F A; intro A F
  refine zgb (rn_eqlN (i := h8x.length) (j := ((48 :: hA).length))) ?_; clear F A; intro A F
  refine hz_do F rfl (ex_pickA rfl (F.e rfl) (fun hx => (F.o rfl hx)) rfl) ?_; clear F A; intro A F
  refine zd ?_; clear F A; intro A F
  refine wpList_nil (hK46 _ _ ?_)
  refine gx_ret ?_
  refine (show bodyPost _ Tryz.f11 RR Exit.ret _ _ from zr ?_)
  exact ⟨congrArg (fun b => Ending.returned (.bool b)) (by obtain ⟨q1, q2⟩ := hP.2 (of_decide_eq_false hb43); rw [q1, q2]; simp), H.k.below (Nat.le_refl _) (fun _ _ f9 => f9)⟩
theorem framerHolds_full (v m : Int) (b : Bool) (a2 : Option Addr) (n2 c2 : Nat) (z : (Nat → Option Addr) × (Nat → List UInt8) × (Nat → Nat)) (n : Int) (w : World) (w00 : (Lit.int .i64 v).wf = true) (w01 : (Lit.int .i64 m).wf = true) (w2 : IsBss w a2 n2 c2 z) (w3 : (Lit.int .u32 n).wf = true) (hT : Tabs w) :
    Calls Tryz.prog 11 #[.agg #[(.int .i64 v), (.int .i64 m), (.bool b)], .slice a2 n2 c2, .int .u32 n] w fun e w' => e = .returned (.bool true) ∧ Below w.heap.size w w' := by
  have hm2 := w2.2.2.1
  have hl2 := w2.2.1
  unfold maxLen at hm2
  have b3 := bounds_u32 w3
  obtain ⟨x, rfl⟩ := Int.eq_ofNat_of_zero_le b3.1
  exact framerHolds_walk v m b a2 n2 c2 z x (by omega) w w2 (by omega) hT
end Go.Proofs.YtdeecgmihfakgaaGreatDoor
