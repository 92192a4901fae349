/-
  FramerStops' walk.
-/
import Derived.Deep.Matrix
import Derived.Test.YtdeecgmihfakgaaGreatDoorYG6
import Derived.Test.YtdeecgmihfakgaaGreatDoorYFT
namespace Go.Proofs.YtdeecgmihfakgaaGreatDoor
open Go.RowKit
set_option linter.unusedVariables false
set_option linter.unusedSimpArgs false
set_option maxRecDepth 100000


/-- A slice of slices of bytes, as it came. -/
def IsBss (w : World) (a : Option Addr) (n c : Nat) (z : (Nat → Option Addr) × (Nat → List UInt8) × (Nat → Nat)) : Prop := (a = none → n = 0 ∧ c = 0) ∧ n ≤ c ∧ c ≤ maxLen ∧ Row w a ((List.range n).map fun r => .slice (z.1 r) (z.2.1 r).length (z.2.2 r)) ∧ ∀ r, r < n → Row w (z.1 r) (B8 (z.2.1 r)) ∧ (z.1 r = none → (z.2.1 r).length = 0 ∧ z.2.2 r = 0) ∧ (z.2.1 r).length ≤ z.2.2 r
theorem open_bss {H : Type} {enc : TypeId × Value → H} {w : World} {base : Nat} {held : Bool} {fuel : Nat} {cs : List Value} {x : DataW H × List MemPlace} (h : DataW.trod enc Tryz.prog w base (fun _ => true) held fuel 63 cs = some x) : ∃ x9 l9 c9 zs, cs = [.slice x9 l9 c9] ∧ IsBss w x9 l9 c9 zs := by
  rcases Go.Deep.open_int_rows Tryz.underlying63 Tryz.underlying25 Tryz.underlying5 (by kernel_rfl) (by kernel_rfl) h with ⟨rfl, _⟩ | ⟨a, len, cap, A, L, C, Z, rfl, hb, hl, hm, _, hx⟩
  · exact ⟨none, 0, 0, (fun _ => none, fun _ => [], fun _ => 0), rfl, fun _ => ⟨rfl, rfl⟩, Nat.le_refl _, Nat.zero_le _, .inl rfl, fun r hr => absurd hr (by omega)⟩
  · have hR : ∀ r, r < cap → IsRow .u8 w (A r) (L r) (C r) (Z r) := fun r hr => by
      obtain ⟨_, h2, h3, h4, h5, h6, h7⟩ := hx r hr
      cases hA : A r with
      | none =>
        have h8 := h6 hA
        exact .inl ⟨rfl, by omega, h8, List.length_eq_zero_iff.1 (by omega)⟩
      | some a' => exact .inr ⟨a', rfl, h2, h3, h4, fun i hi => (h7 a' hA).2 i (by omega), h5⟩
    have hlen : ∀ r, r < cap → ((Z r).take (L r)).length = L r := fun r hr => (hR r hr).row.2.1
    refine ⟨some a, len, cap, (A, fun r => ((Z r).take (L r)).map byteOf, C), rfl, (fun e => by cases e), hl, hm, Row.of_cells fun j u hj => ?_, fun r hr => ?_⟩
    · have hjl : j < len := by
        have := (List.getElem?_eq_some_iff.1 hj).1
        simpa using this
      simp only [List.getElem?_map, List.getElem?_range hjl, Option.map_some, Option.some.injEq, List.length_map, hlen j (by omega)] at hj
      rw [← hj]
      exact (hx j (by omega)).1
    · obtain ⟨q1, q2, q3, q4, q5, q6⟩ := (hR r (by omega)).row
      rw [ints_bytes q6] at q1
      refine ⟨q1, fun e => ⟨by simp only [List.length_map, q2]; have := q5 e; omega, q5 e⟩, by simp only [List.length_map, q2]; exact q3⟩
theorem cell_no {w W : World} {b o : Nat} {v : Value} (hk : Kept No w W) (hlt : b < w.heap.size) (h : w.cell? ⟨b, o, none⟩ = some v) : W.cell? ⟨b, o, none⟩ = some v := by
  have hr : Row w (some ⟨b, o, none⟩) [v] := .inr ⟨b, o, rfl, hlt, fun j u hj => by
    cases j with
    | zero => simp at hj; subst hj; exact h
    | succ j => simp at hj⟩
  rcases hr.keptNo hk with h9 | ⟨b9, o9, e9, _, hc⟩
  · cases h9
  · injection e9 with e9
    injection e9 with e1 e2 _
    subst e1 e2
    exact hc 0 v rfl
theorem bss_at {w : World} {a : Option Addr} {n c i : Nat} {z : (Nat → Option Addr) × (Nat → List UInt8) × (Nat → Nat)} (h : IsBss w a n c z) (hi : i < n) : ∃ b o, a = some ⟨b, o, none⟩ ∧ ∀ W, Kept No w W → W.cell? ⟨b, o + i * 1, none⟩ = some (.slice (z.1 i) (z.2.1 i).length (z.2.2 i)) := by
  obtain ⟨_, _, _, hr, _⟩ := h
  have hne : ((List.range n).map fun r => Value.slice (z.1 r) (z.2.1 r).length (z.2.2 r))[i]? = some (.slice (z.1 i) (z.2.1 i).length (z.2.2 i)) := by simp [hi]
  rcases hr with hr | ⟨b, o, ha, hlt, hc⟩
  · rw [hr] at hne; cases hne
  · exact ⟨b, o, ha, fun W hk => by rw [Nat.mul_one]; exact cell_no hk hlt (hc i _ hne)⟩
theorem feedG_bad2 (v m : Int) : ∀ (n : Nat) (fst : Bool) (l : List UInt8), (feedG v m n fst l).2.2 ≠ 0 → (feedG v m n fst l).2.1 = []
  | 0, _, l => fun h => absurd rfl h
  | n + 1, fst, l => by
    unfold feedG
    split
    · exact feedG_bad2 v m n false _
    · split
      · exact fun h => absurd rfl h
      · exact fun _ => rfl
theorem feedS_bad {v m : Int} {S : Fs} {b h : List UInt8} {I : List (Pk × List UInt8)} {f : Bool} {e : Int} (hfd : feedS v m S b = (I, ⟨f, h, e⟩)) (h0 : S.e = 0) (he : e ≠ 0) : h = [] := by
  unfold feedS at hfd
  rw [if_neg (fun q => q h0)] at hfd
  have e2 := congrArg Prod.snd hfd
  have e4 : (feedG v m (S.h ++ b).length S.fst (S.h ++ b)).2.1 = h := congrArg Fs.h e2
  have e5 : (feedG v m (S.h ++ b).length S.fst (S.h ++ b)).2.2 = e := congrArg Fs.e e2
  rw [← e4]
  exact feedG_bad2 _ _ _ _ _ (by rw [e5]; exact he)
section
variable {v m : Int} {b : Bool} {k j : Nat} (hkm : (IntKind.u64.wrap v).tmod ((2 : Nat) : Int) = (k : Int)) (hk : k < 2) (hjm : (IntKind.u64.wrap m).tmod ((400 : Nat) : Int) = (j : Int)) (hj : j < 400)
include hkm hk hjm hj
theorem cfix_any (w : World) : Calls Tryz.prog 31 #[.agg #[(.int .i64 v), (.int .i64 m), (.bool b)]] w fun e w' => e = .returned (.agg #[(.int .i64 (4 + (k : Int))), (.int .i64 (2 + (j : Int))), (.bool b)]) ∧ Kept No w w' := by
  let RR : Ending → World → Prop := fun e w' => e = .returned (.agg #[(.int .i64 (4 + (k : Int))), (.int .i64 (2 + (j : Int))), (.bool b)]) ∧ Kept No w w'
  go_enter Tryz.func31, Tryz.ntmps31
  generalize hA : ({ tmps := _, defers := [] } : Act) = A
  have F : Fr A 18 [(0, (.agg #[(.int .i64 v), (.int .i64 m), (.bool b)]))] := by rw [← hA]; exact (Fr.cons (i := 0) (v := (.agg #[(.int .i64 v), (.int .i64 m), (.bool b)])) (Fr.nil0 rfl rfl) rfl)
  clear hA; have H := Hp.start w
  refine wp_seq_k (fun K1 hK1 => gx_region ?_)
  refine hz_new (c := #[(.int .i64 v), (.int .i64 m), (.bool b)]) (t := 62) F H rfl (ex_box rfl (F.e rfl) (gx_box _ _)) ?_; clear F A; intro b2 W A hk hN H9 F; clear H; have H := H9; clear H9
  clear hk hN
  refine hz_new (c := #[(.int .i64 0), (.int .i64 0), (.bool false)]) (t := 62) F H rfl (ex_alloc rfl (al_62 _)) ?_; clear F A; intro b3 W A hk hN H9 F; clear H; have H := H9; clear H9
  clear hk hN
  refine wpList_nil (hK1 _ _ ?_)
  refine wp_seq_k (fun K4 hK4 => gx_region ?_)
  iterate 2 (refine zd ?_; clear F A; intro A F)
  refine hz_do (v := (.int .u64 ((IntKind.u64.wrap v)))) F rfl (ex_conv rfl (F.e rfl) (cv_u64 _ _)) ?_; clear F A; intro A F
  refine hz_do (v := (.int .u64 ((k : Int)))) F rfl (ex_bin rfl (F.e rfl) gx_evc (rn_rem (by decide) hkm)) ?_; clear F A; intro A F
  refine hz_do (v := (.int .i64 ((k : Int)))) F rfl (ex_conv rfl (F.e rfl) (cv_i64 _ _ (by omega))) ?_; clear F A; intro A F
  refine hz_do F rfl (ex_bin rfl gx_evc (F.e rfl) (rn_add (gx_wrap_i64 (by omega) (by omega)))) ?_; clear F A; intro A F
  iterate 2 (refine zd ?_; clear F A; intro A F)
  refine hz_do (v := (.int .u64 ((IntKind.u64.wrap m)))) F rfl (ex_conv rfl (F.e rfl) (cv_u64 _ _)) ?_; clear F A; intro A F
  refine hz_do (v := (.int .u64 ((j : Int)))) F rfl (ex_bin rfl (F.e rfl) gx_evc (rn_rem (by decide) hjm)) ?_; clear F A; intro A F
  refine hz_do (v := (.int .i64 ((j : Int)))) F rfl (ex_conv rfl (F.e rfl) (cv_i64 _ _ (by omega))) ?_; clear F A; intro A F
  refine hz_do F rfl (ex_bin rfl gx_evc (F.e rfl) (rn_add (gx_wrap_i64 (by omega) (by omega)))) ?_; clear F A; intro A F
  iterate 2 (refine zd ?_; clear F A; intro A F)
  refine hz_do (v := (.agg #[(.int .i64 (4 + (k : Int))), (.int .i64 (2 + (j : Int))), (.bool b)])) F rfl (ex_build rfl (gx_p1 (F.e rfl) (gx_p1 (F.e rfl) (gx_p1 (F.e rfl) gx_p0))) (by kernel_rfl)) ?_; clear F A; intro A F
  obtain ⟨W9, hr, hB, hk⟩ := gx_storeAgg (P := Tryz.prog) (S := 62) (c := #[(.int .i64 (4 + (k : Int))), (.int .i64 (2 + (j : Int))), (.bool b)]) _ (H.b.at_ (j := 0) rfl).1 (gs_62 _) rfl (by simp [Value.oneCell'])
  refine hz_st (ex_store rfl (F.e rfl) (F.e rfl) hr) ?_; clear hr; replace H : Hp _ _ [_, _] := Hp.turn [] H hk hB; clear hk hB
  refine wpList_nil (hK4 _ _ ?_)
  refine gx_ret ?_
  refine (show bodyPost _ Tryz.f31 RR Exit.ret _ _ from ?_)
  exact bodyPost_ret (fn := Tryz.f31) (gx_resc rfl (F.g 2 _ rfl) (gl_agg (#[(.int .i64 (4 + (k : Int))), (.int .i64 (2 + (j : Int))), (.bool b)]) rfl (ga_62 _) (gs_62 _) (fun i => H.cs 0 rfl i))) F.d (⟨rfl, H.k⟩)
end
set_option maxHeartbeats 8000000 in
theorem framerStops_walk (v m : Int) (b : Bool) (a1 : Option Addr) (c1 : Nat) (bs : List UInt8) (a2 : Option Addr) (n2 c2 : Nat) (z : (Nat → Option Addr) × (Nat → List UInt8) × (Nat → Nat)) (w : World) (hr1 : Row w a1 (B8 bs)) (hn1 : a1 = none → bs.length = 0 ∧ c1 = 0) (hc1 : bs.length ≤ c1) (hm1 : bs.length ≤ 9223372036854775807) (hs2 : IsBss w a2 n2 c2 z) (hm2 : n2 ≤ 9223372036854775807) (hT : Tabs w) :
    Calls Tryz.prog 12 #[.agg #[(.int .i64 v), (.int .i64 m), (.bool b)], .slice a1 bs.length c1, .slice a2 n2 c2] w fun e w' => e = .returned (.bool true) ∧ Below w.heap.size w w' := by
  obtain ⟨k, hkm, hk⟩ := kind_mod v 2 (by decide) (by decide)
  obtain ⟨j, hjm, hj⟩ := kind_mod m 400 (by decide) (by decide)
  let RR : Ending → World → Prop := fun e w' => e = .returned (.bool true) ∧ Below w.heap.size w w'
  go_enter Tryz.func12, Tryz.ntmps12
  generalize hA : ({ tmps := _, defers := [] } : Act) = A
  have F : Fr A 92 [(2, (.slice a2 n2 c2)), (1, (.slice a1 bs.length c1)), (0, (.agg #[(.int .i64 v), (.int .i64 m), (.bool b)]))] := by rw [← hA]; exact (Fr.cons (i := 2) (v := (.slice a2 n2 c2)) (Fr.cons (i := 1) (v := (.slice a1 bs.length c1)) (Fr.cons (i := 0) (v := (.agg #[(.int .i64 v), (.int .i64 m), (.bool b)])) (Fr.nil0 rfl rfl) rfl) rfl) rfl)
  clear hA; have H := Hp.start w
  refine wp_seq_k (fun K1 hK1 => gx_region ?_)
  refine hz_new (c := #[(.int .i64 v), (.int .i64 m), (.bool b)]) (t := 62) F H rfl (ex_box rfl (F.e rfl) (gx_box _ _)) ?_; clear F A; intro cf W A hk hN H9 F; clear H; have H := H9; clear H9
  clear hk hN
  refine zd ?_; clear F A; intro A F
  refine wpList_nil (hK1 _ _ ?_)
  refine wp_seq_k (fun K2 hK2 => gx_region ?_)
  refine hz_do F rfl (ex_load rfl (F.e rfl) (gl_agg (#[(.int .i64 v), (.int .i64 m), (.bool b)]) rfl (ga_62 _) (gs_62 _) (fun i => H.cs 0 rfl i))) ?_; clear F A; intro A F
  refine hz_callk F H rfl (ex_call rfl rfl (gx_l1 (F.e rfl) gx_l0) fn_31) (cfix_any hkm hk hjm hj _) ?_; clear F H A; intro W A hk H F
  clear hk
  obtain ⟨W9, hr, hB, hk⟩ := gx_storeAgg (P := Tryz.prog) (S := 62) (c := #[(.int .i64 (4 + (k : Int))), (.int .i64 (2 + (j : Int))), (.bool b)]) _ (H.b.at_ (j := 0) rfl).1 (gs_62 _) rfl (by simp [Value.oneCell'])
  refine hz_st (ex_store rfl (F.e rfl) (F.e rfl) hr) ?_; clear hr; replace H : Hp _ _ [_] := Hp.turn [] H hk hB; clear hk hB
  refine wpList_nil (hK2 _ _ ?_)
  refine wp_seq_k (fun K4 hK4 => gx_region ?_)
  iterate 6 (refine zd ?_; clear F A; intro A F)
  refine hz_callX (fun (b9 : Nat) => [⟨b9, 147, #[.int .i64 (4 + (k : Int)), .int .i64 (2 + (j : Int)), .bool b, .slice none 0 0, .int .i64 0]⟩, ⟨cf, 62, #[(.int .i64 (4 + (k : Int))), (.int .i64 (2 + (j : Int))), (.bool b)]⟩]) (NewX _ (4 + (k : Int)) (2 + (j : Int)) b) F rfl (ex_call rfl rfl (gx_l1 (F.e rfl) (gx_l1 (F.e rfl) (gx_l1 (F.e rfl) gx_l0))) fn_32) (fnew_X (show NewOk (4 + (k : Int)) (2 + (j : Int)) from ⟨by omega, by omega⟩) b _) (fun b9 _ _ h => Hp.add H h.k h.fb h.lo) ?_; clear F H A; intro f1 vv W A hR H F; obtain ⟨rfl, hlo1, -, hk9⟩ := hR
  clear hk9
  obtain ⟨Bf1, hBf1⟩ : ∃ n, n = W.heap.size := ⟨_, rfl⟩
  have hBh1 : w.heap.size ≤ Bf1 := by rw [hBf1]; exact H.size
  have hBw1 : Bf1 ≤ W.heap.size := by rw [hBf1]; exact Nat.le_refl _
  have hO1 : W.ownsRow Bf1 5 1 (.slice none ([] : List UInt8).length 0) ([] : List UInt8).length (B8 []) := own_nil _
  iterate 5 (refine zd ?_; clear F A; intro A F)
  refine wpList_nil (hK4 _ _ ?_)
  refine wp_seq_k (fun K5 hK5 => ?_)
  refine wp_seq_k (fun K6 hK6 => gx_region ?_)
  refine zd ?_; clear F A; intro A F
  refine hz_do (v := (.bool false)) F rfl (ex_bin rfl (F.e rfl) gx_evc (rn_pn _ _ _ _)) ?_; clear F A; intro A F
  refine zd ?_; clear F A; intro A F
  refine hz_callk1 F H rfl (hw_f (X := false) F rfl rfl rfl) (ex_call rfl rfl gx_l0 fn_33) (told10_any _ (hT.kept H.k)) ?_; clear F H A; intro W A hk H F
  replace hO1 := own_keptNo hO1 hk
  replace hBw1 := Nat.le_trans hBw1 hk.size
  clear hk
  refine hz_do1 F rfl (hw_f (X := false) F rfl rfl rfl) (ex_not rfl (F.e rfl)) ?_; clear F A; intro A F
  refine hz_do F rfl (ex_pickF rfl (F.e rfl) (F.e rfl)) ?_; clear F A; intro A F
  refine wpList_nil (hK6 _ _ ?_)
  refine wp_cond_false (F.e rfl) ?_
  refine wp_skip (hK5 _ _ ?_)
  refine wp_seq_k (fun K8 hK8 => gx_region ?_)
  iterate 3 (refine zd ?_; clear F A; intro A F)
  refine hz_do F rfl (ex_len rfl (gx_l1 (F.e rfl) gx_l0) (rn_lens Tryz.underlying25)) ?_; clear F A; intro A F
  refine hz_do (v := (.int .i64 (((min bs.length 600 : Nat) : Int)))) F rfl (ex_minN rfl (gx_l1 (F.e rfl) (gx_l1 gx_evc gx_l0))) ?_; clear F A; intro A F
  obtain ⟨a5, hsl, hr5, hn5, hc5⟩ := slice_takeW a1 c1 bs 600 hc1
  obtain ⟨I1, f1x, h1x, e1x, hfd1⟩ : ∃ I f h e, feedS (4 + (k : Int)) (2 + (j : Int)) ⟨b, [], 0⟩ (bs.take 600) = (I, ⟨f, h, e⟩) := ⟨_, _, _, _, rfl⟩
  refine hz_do (v := (.slice a5 ((bs.take 600).length) c1)) F rfl (ex_slice rfl (F.e rfl) rfl (congrArg some (F.e rfl)) rfl (hsl _)) ?_; clear F A; intro A F
  refine hz_callX (fun (x : List It × (Option Addr × Nat) × (Option Addr × Nat)) => [⟨f1, 147, #[.int .i64 (4 + (k : Int)), .int .i64 (2 + (j : Int)), .bool f1x, .slice x.2.2.1 h1x.length x.2.2.2, .int .i64 e1x]⟩, ⟨cf, 62, #[(.int .i64 (4 + (k : Int))), (.int .i64 (2 + (j : Int))), (.bool b)]⟩]) (FeedR _ f1 (4 + (k : Int)) (2 + (j : Int)) Bf1 (.slice none (([] : List UInt8)).length 0) I1 f1x h1x e1x) F rfl (ex_call rfl rfl (gx_l1 (F.e rfl) (gx_l1 (F.e rfl) gx_l0)) fn_34) (feed_any w _ f1 (4 + (k : Int)) (2 + (j : Int)) b 0 none 0 (([] : List UInt8)) Bf1 hBh1 hBw1 ⟨H.k, (H.b.at_ (j := 0) rfl).1, (H.b.at_ (j := 0) rfl).2, by simp, trivial⟩ hO1 a5 c1 ((bs.take 600)) ((hr5 _ (hr1.keptNo H.k))) ((hn5 hn1)) ((by simp only [List.length_nil, List.length_take]; omega)) (hT.kept (Kept.refl _ _)) I1 f1x h1x e1x hfd1) (fun x9 _ _ h => Hp.re H h.k (geT9 (H.b.at_ (j := 0) rfl).2 hBh1 hO1) ⟨⟨rfl, fun _ => h.fb⟩, ⟨kT9 h.k (H.b.at_ (j := 0) rfl).1 (ne9 rfl) hO1 (ne9 rfl), trivial⟩⟩) ?_; clear F H A; intro x9 vv W A hR H F
  obtain ⟨L9, ⟨ia9, ic9⟩, ha9, hc9⟩ := x9; try dsimp only at H
  obtain ⟨rfl, hLm9, hI9, hBy9, -, hO9, hk9⟩ := hR; try dsimp only at hLm9 hI9 hBy9 hO9 F
  replace hBw1 := Nat.le_trans hBw1 hk9.size
  clear hO1; have hO1 := hO9; clear hO9 hk9
  iterate 5 (refine zd ?_; clear F A; intro A F)
  refine wpList_nil (hK8 _ _ ?_)
  refine wp_seq_k (fun K10 hK10 => ?_)
  refine wp_seq_k (fun K11 hK11 => gx_region ?_)
  refine zd ?_; clear F A; intro A F
  refine zb (rn_eql) ?_; clear F A; intro A F
  refine wpList_nil (hK11 _ _ ?_)
  refine zc (fun hb12 => ?_) (fun hb12 => ?_)
  · skip
    refine wp_seq_k (fun K13 hK13 => gx_region ?_)
    refine zd ?_; clear F A; intro A F
    refine hz_callk F H rfl (ex_call rfl rfl (gx_l1 (F.e rfl) gx_l0) fn_39) (ferr_any (H.b.at_ (j := 0) rfl).1) ?_; clear F H A; intro W A hk H F
    replace hO1 := own_keptNo hO1 hk
    replace hBw1 := Nat.le_trans hBw1 hk.size
    clear hk
    refine zb (rn_eql) ?_; clear F A; intro A F
    replace F := F.hd (congrArg Value.bool hb12)
    refine zd ?_; clear F A; intro A F
    refine wpList_nil (hK13 _ _ ?_)
    refine gx_ret ?_
    refine (show bodyPost _ Tryz.f12 RR Exit.ret _ _ from zr ?_)
    exact ⟨by first | rfl | simp, H.k.below (Nat.le_refl _) (fun _ _ f9 => f9)⟩
  refine wp_skip (hK10 _ _ ?_)
  refine wp_seq_k (fun K15 hK15 => ?_)
  refine wp_seq_k (fun K16 hK16 => gx_region ?_)
  refine zd ?_; clear F A; intro A F
  refine wpList_nil (hK16 _ _ ?_)
  refine wp_block ?_
  have he1 : e1x ≠ 0 := of_decide_eq_false hb12; have hh1 : h1x = [] := feedS_bad hfd1 rfl he1
  refine hz_loop (fun (i : Nat) A W => ∃ hax : Option Addr, ∃ hcx : Nat, Fr A 92 [(2, (.slice a2 n2 c2)), (6, (.bool false)), (7, (.pointer (some ⟨f1, 0, none⟩))), (10, (.int .i64 e1x)), (11, (.int .i64 ((i : Int))))] ∧ Hp w W [⟨f1, 147, #[(.int .i64 (4 + (k : Int))), (.int .i64 (2 + (j : Int))), (.bool f1x), (.slice hax h1x.length hcx), (.int .i64 e1x)]⟩, ⟨cf, 62, #[(.int .i64 (4 + (k : Int))), (.int .i64 (2 + (j : Int))), (.bool b)]⟩] ∧ (W.ownsRow Bf1 5 1 (.slice hax h1x.length hcx) h1x.length (B8 h1x)) ∧ (Bf1 ≤ W.heap.size)) (fun i => n2 - i) 0 ⟨ha9, hc9, (((((F.nil.cons (gx_is (F.g 11 _ rfl) (by rfl))).cons (F.g 10 _ rfl)).cons (F.g 7 _ rfl)).cons (F.g 6 _ rfl)).cons (F.g 2 _ rfl)), H, hO1, hBw1⟩ (fun i A W hI J17 hJ17 => ?_)
  clear F H; obtain ⟨hax, hcx, F, H, hO1, hBw1⟩ := hI
  refine wp_seq_k (fun K18 hK18 => ?_)
  refine wp_seq_k (fun K19 hK19 => gx_region ?_)
  iterate 2 (refine zd ?_; clear F A; intro A F)
  refine hz_do F rfl (ex_len rfl (gx_l1 (F.e rfl) gx_l0) (rn_lens Tryz.underlying63)) ?_; clear F A; intro A F
  refine zb (rn_lssN (i := i) (j := n2)) ?_; clear F A; intro A F
  refine zd ?_; clear F A; intro A F
  refine zg ?_; clear F A; intro A F
  refine zgb (rn_lssN (i := i) (j := 10)) ?_; clear F A; intro A F
  refine hz_do F rfl (ex_pickA rfl (F.e rfl) (fun hx => (F.o rfl hx)) rfl) ?_; clear F A; intro A F
  refine wpList_nil (hK19 _ _ ?_)
  refine zc (fun hb20 => ?_) (fun hb20 => ?_)
  · skip
    refine wp_skip (hK18 _ _ ?_)
    refine wp_seq_k (fun K21 hK21 => ?_)
    refine wp_block ?_
    refine wp_seq_k (fun K22 hK22 => ?_)
    have hi : i < n2 := by have h9 := hb20; rw [Bool.and_eq_true, decide_eq_true_eq] at h9; exact h9.1
    obtain ⟨b2, o2, ha2, hcl2⟩ := bss_at hs2 hi
    obtain ⟨a6, hsl6, hr6, hn6, hc6⟩ := slice_takeW (z.1 i) (z.2.2 i) (z.2.1 i) 100 (hs2.2.2.2.2 i hi).2.2
    refine wp_region_held_drew (S := fun wx => ∃ c9, Hp _ wx [⟨f1, 147, c9⟩, _]) (by kernel_rfl) ⟨_, H.drew⟩ (fun H9 => ?_); clear H9; replace H := H.drew
    replace hO1 := own_keptNo hO1 (Kept.refl No _).drew
    replace hBw1 := Nat.le_trans hBw1 (Kept.refl No _).drew.size
    generalize World.drew _ = W at *
    refine td 0 ?_; clear F A; intro A F
    refine td 1 ?_; clear F A; intro A F
    refine td 2 ?_; clear F A; intro A F
    refine hzh_do (v := (.pointer (some ⟨b2, o2 + i * 1, none⟩))) (i := 3) F rfl rfl (by kernel_rfl) (fun _ _ _ h => h) (⟨_, H⟩) (fun wz ⟨c9, H⟩ => (ex_idxaddr rfl (((F.e rfl)).trans (show _ = Value.slice (some ⟨b2, o2, none⟩) n2 c2 from by rw [← ha2])) (F.e rfl) (rn_idx Tryz.underlying63 (gs1_25 _) hi))) ?_; clear F A; intro A F
    refine hzh_do (v := (.slice ((z.1 i)) ((z.2.1 i).length) ((z.2.2 i)))) (i := 4) F rfl rfl (by kernel_rfl) (fun _ _ _ h => h) (⟨_, H⟩) (fun wz ⟨c9, H⟩ => (ex_load rfl (F.e rfl) (gl_one (ag_25 _) (hcl2 _ H.k)))) ?_; clear F A; intro A F
    refine td 5 ?_; clear F A; intro A F
    refine td 6 ?_; clear F A; intro A F
    refine hzh_do (v := (.pointer (some ⟨b2, o2 + i * 1, none⟩))) (i := 7) F rfl rfl (by kernel_rfl) (fun _ _ _ h => h) (⟨_, H⟩) (fun wz ⟨c9, H⟩ => (ex_idxaddr rfl (((F.e rfl)).trans (show _ = Value.slice (some ⟨b2, o2, none⟩) n2 c2 from by rw [← ha2])) (F.e rfl) (rn_idx Tryz.underlying63 (gs1_25 _) hi))) ?_; clear F A; intro A F
    refine hzh_do (v := (.slice ((z.1 i)) ((z.2.1 i).length) ((z.2.2 i)))) (i := 8) F rfl rfl (by kernel_rfl) (fun _ _ _ h => h) (⟨_, H⟩) (fun wz ⟨c9, H⟩ => (ex_load rfl (F.e rfl) (gl_one (ag_25 _) (hcl2 _ H.k)))) ?_; clear F A; intro A F
    refine hzh_do (v := (.int .i64 ((((z.2.1 i).length) : Int)))) (i := 9) F rfl rfl (by kernel_rfl) (fun _ _ _ h => h) (⟨_, H⟩) (fun wz ⟨c9, H⟩ => (ex_len rfl (gx_l1 (F.e rfl) gx_l0) (rn_lens Tryz.underlying25))) ?_; clear F A; intro A F
    refine hzh_do (v := (.int .i64 (((min (z.2.1 i).length 100 : Nat) : Int)))) (i := 10) F rfl rfl (by kernel_rfl) (fun _ _ _ h => h) (⟨_, H⟩) (fun wz ⟨c9, H⟩ => (ex_minN rfl (gx_l1 (F.e rfl) (gx_l1 gx_evc gx_l0)))) ?_; clear F A; intro A F
    refine hzh_do (v := (.slice a6 (((z.2.1 i).take 100).length) ((z.2.2 i)))) (i := 11) F rfl rfl (by kernel_rfl) (fun _ _ _ h => h) (⟨_, H⟩) (fun wz ⟨c9, H⟩ => (ex_slice rfl (F.e rfl) rfl (congrArg some (F.e rfl)) rfl (hsl6 _))) ?_; clear F A; intro A F
    refine hb_one (i := 12) (by kernel_rfl) (hb_callX (i := 12) (fun (x : List It × (Option Addr × Nat) × (Option Addr × Nat)) => [⟨f1, 147, #[.int .i64 (4 + (k : Int)), .int .i64 (2 + (j : Int)), .bool f1x, .slice x.2.2.1 h1x.length x.2.2.2, .int .i64 e1x]⟩, ⟨cf, 62, #[(.int .i64 (4 + (k : Int))), (.int .i64 (2 + (j : Int))), (.bool b)]⟩]) (FeedR _ f1 (4 + (k : Int)) (2 + (j : Int)) Bf1 (.slice hax h1x.length hcx) [] f1x h1x e1x) F rfl rfl (ex_call rfl rfl (gx_l1 (F.e rfl) (gx_l1 (F.e rfl) gx_l0)) fn_34) (feed_any w _ f1 (4 + (k : Int)) (2 + (j : Int)) f1x e1x hax hcx h1x Bf1 hBh1 hBw1 ⟨H.k, (H.b.at_ (j := 0) rfl).1, (H.b.at_ (j := 0) rfl).2, by simp, trivial⟩ hO1 a6 ((z.2.2 i)) (((z.2.1 i).take 100)) ((hr6 _ ((hs2.2.2.2.2 i hi).1.keptNo H.k))) ((hn6 (hs2.2.2.2.2 i hi).2.1)) ((by rw [hh1]; simp only [List.length_nil, List.length_take]; omega)) (hT.kept (Kept.refl _ _)) [] f1x h1x e1x ((feedS_err he1))) (fun x9 _ _ h => Hp.re H h.k (geT9 (H.b.at_ (j := 0) rfl).2 hBh1 hO1) ⟨⟨rfl, fun _ => h.fb⟩, ⟨kT9 h.k (H.b.at_ (j := 0) rfl).1 (ne9 rfl) hO1 (ne9 rfl), trivial⟩⟩) (fun _ _ H => ⟨_, H⟩) ?_); clear F H A; intro x9 vv W A hR H F
    obtain ⟨L23, ⟨ia23, ic23⟩, ha23, hc23⟩ := x9; try dsimp only at H
    obtain ⟨rfl, hLm23, hI23, hBy23, -, hO9, hk9⟩ := hR; try dsimp only at hLm23 hI23 hBy23 hO9 F
    replace hBw1 := Nat.le_trans hBw1 hk9.size
    clear hO1; have hO1 := hO9; clear hO9 hk9
    have hl9_23 : L23.length = 0 := by rw [pb_len hLm23]; rfl
    refine td 13 ?_; clear F A; intro A F
    refine td 14 ?_; clear F A; intro A F
    refine td 15 ?_; clear F A; intro A F
    refine td 16 ?_; clear F A; intro A F
    refine td 17 ?_; clear F A; intro A F
    refine wpAnyH_done (by kernel_rfl) ?_ _
    refine hK22 _ _ ?_
    refine wp_seq_k (fun K24 hK24 => gx_region ?_)
    refine zd ?_; clear F A; intro A F
    refine hz_do F rfl (ex_len rfl (gx_l1 (F.e rfl) gx_l0) (rn_lens Tryz.underlying69)) ?_; clear F A; intro A F
    refine zb (rn_neqN (i := L23.length) (j := 0)) ?_; clear F A; intro A F
    have hr25 : (!decide (L23.length = 0)) = false := (by rw [show (decide (L23.length = 0)) = true from (decide_eq_true hl9_23)] <;> rfl)
    replace F := F.hd (congrArg Value.bool hr25)
    refine zd ?_; clear F A; intro A F
    refine hz_do1 F rfl (hw_f (X := false) F rfl rfl rfl) (ex_move rfl (F.e rfl)) ?_; clear F A; intro A F
    refine hz_do1 F rfl (hw_f (X := false) F rfl rfl rfl) (ex_move rfl (F.e rfl)) ?_; clear F A; intro A F
    refine hz_do1 F rfl (hw_f (X := false) F rfl rfl rfl) (ex_bin rfl (F.e rfl) (F.e rfl) (rn_neq)) ?_; clear F A; intro A F
    have hr26 : (!decide (e1x = e1x)) = false := (by rw [show (decide (e1x = e1x)) = true from (by simp)] <;> rfl)
    replace F := F.hd (congrArg Value.bool hr26)
    refine hz_do F rfl (ex_pickF rfl (F.e rfl) (F.e rfl)) ?_; clear F A; intro A F
    refine zd ?_; clear F A; intro A F
    refine hz_do1 F rfl (hw_f (X := false) F rfl rfl rfl) (ex_move rfl (F.e rfl)) ?_; clear F A; intro A F
    refine hz_callk1 F H rfl (hw_f (X := false) F rfl rfl rfl) (ex_call rfl rfl (gx_l1 (F.e rfl) gx_l0) fn_38) (fheld_any (H.b.at_ (j := 0) rfl).1) ?_; clear F H A; intro W A hk H F
    replace hO1 := own_keptNo hO1 hk
    replace hBw1 := Nat.le_trans hBw1 hk.size
    clear hk
    refine hz_do1 F rfl (hw_f (X := false) F rfl rfl rfl) (ex_bin rfl (F.e rfl) gx_evc (rn_neqN (i := h1x.length) (j := 0))) ?_; clear F A; intro A F
    have hr28 : (!decide (h1x.length = 0)) = false := (by rw [show (decide (h1x.length = 0)) = true from (by rw [hh1]; rfl)] <;> rfl)
    replace F := F.hd (congrArg Value.bool hr28)
    refine hz_do F rfl (ex_pickF rfl (F.e rfl) (F.e rfl)) ?_; clear F A; intro A F
    refine zd ?_; clear F A; intro A F
    refine hz_do1 F rfl (hw_f (X := false) F rfl rfl rfl) (ex_move rfl (F.e rfl)) ?_; clear F A; intro A F
    refine hz_callk1 F H rfl (hw_f (X := false) F rfl rfl rfl) (ex_call rfl rfl (gx_l1 (F.e rfl) gx_l0) fn_39) (ferr_any (H.b.at_ (j := 0) rfl).1) ?_; clear F H A; intro W A hk H F
    replace hO1 := own_keptNo hO1 hk
    replace hBw1 := Nat.le_trans hBw1 hk.size
    clear hk
    refine hz_do1 F rfl (hw_f (X := false) F rfl rfl rfl) (ex_move rfl (F.e rfl)) ?_; clear F A; intro A F
    refine hz_do1 F rfl (hw_f (X := false) F rfl rfl rfl) (ex_bin rfl (F.e rfl) (F.e rfl) (rn_neq)) ?_; clear F A; intro A F
    replace F := F.hd (congrArg Value.bool hr26)
    refine hz_do F rfl (ex_pickF rfl (F.e rfl) (F.e rfl)) ?_; clear F A; intro A F
    refine wpList_nil (hK24 _ _ ?_)
    refine wp_cond_false (F.e rfl) ?_
    refine wp_skip (hK21 _ _ ?_)
    refine gx_region ?_
    refine zd ?_; clear F A; intro A F
    refine hz_do F rfl (ex_bin rfl (F.e rfl) gx_evc (rn_add (gx_wrap_i64 (by omega) (by omega)))) ?_; clear F A; intro A F
    refine zd ?_; clear F A; intro A F
    refine wpList_nil ?_
    exact hJ17 ((i + 1)) _ _ (by omega) ⟨ha23, hc23, (((((F.nil.cons (gx_is (F.g 11 _ rfl) (by simp))).cons (F.g 10 _ rfl)).cons (F.g 7 _ rfl)).cons (F.g 6 _ rfl)).cons (F.g 2 _ rfl)), H, hO1, hBw1⟩
  refine wp_exit ?_
  refine hK15 _ _ ?_
  refine wp_seq_k (fun K30 hK30 => gx_region ?_)
  refine zd ?_; clear F A; intro A F
  refine wpList_nil (hK30 _ _ ?_)
  refine gx_ret ?_
  refine (show bodyPost _ Tryz.f12 RR Exit.ret _ _ from zr ?_)
  exact ⟨by first | rfl | simp, H.k.below (Nat.le_refl _) (fun _ _ f9 => f9)⟩
theorem framerStops_full (v m : Int) (b : Bool) (a1 : Option Addr) (len1 cap1 : Nat) (z1 : List Int) (a2 : Option Addr) (n2 c2 : Nat) (z : (Nat → Option Addr) × (Nat → List UInt8) × (Nat → Nat)) (w : World) (w00 : (Lit.int .i64 v).wf = true) (w01 : (Lit.int .i64 m).wf = true) (w1 : IsRow .u8 w a1 len1 cap1 z1) (w2 : IsBss w a2 n2 c2 z) (hT : Tabs w) :
    Calls Tryz.prog 12 #[.agg #[(.int .i64 v), (.int .i64 m), (.bool b)], .slice a1 len1 cap1, .slice a2 n2 c2] w fun e w' => e = .returned (.bool true) ∧ Below w.heap.size w w' := by
  obtain ⟨hrow, hlen, hlc, hcm, hn, hwf⟩ := w1.row
  rw [ints_bytes hwf] at hrow
  have hlen' : ((z1.take len1).map byteOf).length = len1 := by simpa using hlen
  generalize (z1.take len1).map byteOf = l at *
  subst hlen'
  unfold maxLen at hcm
  have hm2 := w2.2.2.1
  have hl2 := w2.2.1
  unfold maxLen at hm2
  exact framerStops_walk v m b a1 cap1 l a2 n2 c2 z w hrow (fun h => by have := hn h; omega) (by omega) (by omega) w2 (by omega) hT
end Go.Proofs.YtdeecgmihfakgaaGreatDoor
