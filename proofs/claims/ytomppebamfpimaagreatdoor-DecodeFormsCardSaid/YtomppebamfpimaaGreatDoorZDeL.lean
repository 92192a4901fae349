/-
  DecodeForms' walk.
-/
import Derived.Test.YtomppebamfpimaaGreatDoorZDeK
import Derived.Test.YtomppebamfpimaaGreatDoorYFT
namespace Go.Proofs.YtomppebamfpimaaGreatDoor
open Go.RowKit
set_option linter.unusedVariables false
set_option linter.unusedSimpArgs false
set_option maxRecDepth 100000

theorem bounds_u16 {x : Int} (h : (Lit.int .u16 x).wf = true) : 0 ≤ x ∧ x ≤ 65535 := by
  have h2 : IntKind.u16.min ≤ x ∧ x ≤ IntKind.u16.max := by simpa [Lit.wf] using h
  exact h2
theorem gx_wrap_u16 {n : Int} (h : 0 ≤ n) (h2 : n ≤ 65535) : IntKind.u16.wrap n = n := by rw [IntKind.wrap_u16]; omega
theorem rn_mul {P : Program} {w : World} {t : TypeId} {k : IntKind} {i j c : Int} {x y : Operand} (h : k.wrap (i * j) = c) : (do eqGuard .mul t x y (.int k i) (.int k j); binOp .mul t (.int k i) (.int k j) : Sem Value).run P w = .ok (.int k c) w := by subst h; simp [eqGuard, binOp, Op.intArith]
theorem fn_35 (args : Array Value) (w : World) : (callFunc 35 args).run Tryz.prog w = .ok (.enter 35 args) w := gx_fn Tryz.func35 (by kernel_rfl) rfl args w
theorem taken1 (c : UInt8) (t : List UInt8) : taken 1 (c :: t) 0 = [c] := by unfold taken; rw [if_pos ⟨rfl, by decide, by simp only [List.length_cons]; omega⟩]; rfl
theorem left1 (c : UInt8) (t : List UInt8) : leftL 1 (c :: t) 0 = t := by unfold leftL; rw [if_pos rfl, if_pos ⟨by decide, by simp only [List.length_cons]; omega⟩]; rfl
theorem leftE1 (c : UInt8) (t : List UInt8) : leftE 1 (c :: t) 0 = 0 := by unfold leftE; rw [if_pos rfl, if_pos ⟨by decide, by simp only [List.length_cons]; omega⟩]
theorem num1 (c : UInt8) : num [c] = c.toNat := by simp [num]
theorem head_two (f r : UInt8) (t : List UInt8) (hr : r.toNat < 128) : headE (f :: r :: t) = 0 ∧ headB (f :: r :: t) = ⟨((f.toNat / 16 : Nat) : Int), f.toNat % 16, 2, r.toNat⟩ := by
  have hS : headS (f :: r :: t) = (r.toNat, t, 0) := by
    unfold headS
    rw [left1, leftE1, rv_done (leftE1 _ _) (by rw [taken1, num1]; exact hr) (by rintro ⟨_, h⟩; omega), taken1, left1, leftE1, num1]
    have : 0 + r.toNat % 128 * 128 ^ 0 = r.toNat := by simp; omega
    rw [this]
  refine ⟨(head_full _).1.trans (by rw [hS]), ?_⟩
  rw [(head_full _).2 (by rw [hS]), hS, taken1, num1]
  congr 1
  simp only [List.length_cons]
  omega
def fp9 (k i c : Nat) : Pk := { zk (4 + (k : Int)) with id := i, code := c }
/-- The bytes of an answer: a header, a number, what is behind. -/
def fb9 (f r i : Nat) (t : List UInt8) : List UInt8 := UInt8.ofNat f :: UInt8.ofNat r :: UInt8.ofNat (i / 256) :: UInt8.ofNat (i % 256) :: t
def ff9 (k : Nat) : Nat := 16 * (4 + k) + (if k = 2 then 2 else 0)
theorem u8n {n : Nat} (h : n < 256) : (UInt8.ofNat n).toNat = n := by rw [UInt8.toNat_ofNat']; omega
theorem ff9_le {k : Nat} (h : k < 4) : ff9 k < 256 ∧ ff9 k / 16 = 4 + k ∧ ff9 k % 16 = (if k = 2 then 2 else 0) := by
  have : k = 0 ∨ k = 1 ∨ k = 2 ∨ k = 3 := by omega
  rcases this with rfl | rfl | rfl | rfl <;> decide
theorem hok9 {v : Int} {k r : Nat} (hv : v = 4 ∨ v = 5) (h : k < 4) : headOk v ⟨4 + (k : Int), (if k = 2 then 2 else 0), 2, r⟩ = true := by
  have : k = 0 ∨ k = 1 ∨ k = 2 ∨ k = 3 := by omega
  rcases hv with rfl | rfl <;> rcases this with rfl | rfl | rfl | rfl <;> rfl
theorem fields9 {v : Int} {k i fl : Nat} (t : List UInt8) (h : k < 4) (hi : i < 65536) : fieldsK v (4 + (k : Int)) fl ⟨UInt8.ofNat (i / 256) :: UInt8.ofNat (i % 256) :: t, 0, false⟩ = shortK v (fp9 k i 0) ⟨t, 0, false⟩ := by
  rw [fk4 (by omega)]
  have e1 : Ts.num 2 ⟨UInt8.ofNat (i / 256) :: UInt8.ofNat (i % 256) :: t, 0, false⟩ = i := by
    unfold Ts.num taken
    rw [if_pos ⟨rfl, by decide, by simp only [List.length_cons]; omega⟩]
    show num [UInt8.ofNat (i / 256), UInt8.ofNat (i % 256)] = i
    simp only [num, List.foldl_cons, List.foldl_nil]
    rw [u8n (by omega), u8n (by omega)]
    omega
  have e2 : Ts.rd 2 ⟨UInt8.ofNat (i / 256) :: UInt8.ofNat (i % 256) :: t, 0, false⟩ = ⟨t, 0, false⟩ := by
    unfold Ts.rd leftL leftE
    rw [if_pos rfl, if_pos rfl, if_pos ⟨by decide, by simp only [List.length_cons]; omega⟩, if_pos ⟨by decide, by simp only [List.length_cons]; omega⟩]
    rfl
  rw [e1, e2]
  rfl
theorem right9 {v : Int} {k i c : Nat} (hv : v = 4 ∨ v = 5) (h : k < 4) (hi : 0 < i) (hk : ke v (4 + (k : Int)) c = true) : rightP v (fp9 k i c) = true := by
  have hr : restN v (fp9 k i c) ≤ 268435455 := by
    have h1 : shortN v (fp9 k i c) ≤ 1 := by
      unfold shortN
      split
      · decide
      · rw [if_pos (show (fp9 k i c).props.length = 0 from rfl)]; decide
    have h2 : restN v (fp9 k i c) = 2 + shortN v (fp9 k i c) := by
      unfold restN
      rw [if_neg (show ¬ (fp9 k i c).kind = 1 from (by show ¬ (4 + (k : Int)) = 1; omega)), if_neg (show ¬ (fp9 k i c).kind = 2 from (by show ¬ (4 + (k : Int)) = 2; omega)), if_neg (show ¬ (fp9 k i c).kind = 3 from (by show ¬ (4 + (k : Int)) = 3; omega)), if_pos (show (fp9 k i c).kind = 4 ∨ (fp9 k i c).kind = 5 ∨ (fp9 k i c).kind = 6 ∨ (fp9 k i c).kind = 7 from (by show (4 + (k : Int)) = 4 ∨ (4 + (k : Int)) = 5 ∨ (4 + (k : Int)) = 6 ∨ (4 + (k : Int)) = 7; omega))]
    omega
  have hF : fieldsB v (fp9 k i c) = true := by
    unfold fieldsB
    rw [if_neg (show ¬ (fp9 k i c).kind = 1 from (by show ¬ (4 + (k : Int)) = 1; omega)), if_neg (show ¬ (fp9 k i c).kind = 2 from (by show ¬ (4 + (k : Int)) = 2; omega)), if_neg (show ¬ (fp9 k i c).kind = 3 from (by show ¬ (4 + (k : Int)) = 3; omega)), if_pos (show (fp9 k i c).kind = 4 ∨ (fp9 k i c).kind = 5 ∨ (fp9 k i c).kind = 6 ∨ (fp9 k i c).kind = 7 from (by show (4 + (k : Int)) = 4 ∨ (4 + (k : Int)) = 5 ∨ (4 + (k : Int)) = 6 ∨ (4 + (k : Int)) = 7; omega))]
    show (!decide (i = 0) && ke v (4 + (k : Int)) c) = true
    rw [hk, decide_eq_false (by omega)]
    rfl
  have h9 : k = 0 ∨ k = 1 ∨ k = 2 ∨ k = 3 := by omega
  have hb : fp9 k i c = bareP (fp9 k i c) := by
    rcases h9 with rfl | rfl | rfl | rfl <;> rfl
  have hE : existsB v (4 + (k : Int)) = true := by
    rcases hv with rfl | rfl <;> rcases h9 with rfl | rfl | rfl | rfl <;> rfl
  have hP : propsB v (fp9 k i c) = true := by
    rcases hv with rfl | rfl <;> rcases h9 with rfl | rfl | rfl | rfl <;> rfl
  unfold rightP
  rw [show existsB v (fp9 k i c).kind = true from hE, decide_eq_true hb, hP, hF, decide_eq_true hr]
  rfl
section
variable {v : Int} {k i r : Nat} {t : List UInt8} (hv : v = 4 ∨ v = 5) (h : k < 4) (hi : 0 < i) (hi2 : i < 65536) (hr : r < 128) (ht : t.length + 2 = r)
include h hr
theorem fhead : headE (fb9 (ff9 k) r i t) = 0 ∧ headB (fb9 (ff9 k) r i t) = ⟨4 + (k : Int), (if k = 2 then 2 else 0), 2, r⟩ := by
  obtain ⟨h1, h2, h3⟩ := ff9_le h
  have := head_two (UInt8.ofNat (ff9 k)) (UInt8.ofNat r) (UInt8.ofNat (i / 256) :: UInt8.ofNat (i % 256) :: t) (by rw [u8n (by omega)]; exact hr)
  rw [u8n h1, u8n (show r < 256 by omega), h2, h3] at this
  refine ⟨this.1, this.2.trans ?_⟩
  rw [show (((4 + k : Nat)) : Int) = 4 + (k : Int) by omega]
include hv hi2
theorem fbad {K : Pk × Ts} (hK : shortK v (fp9 k i 0) ⟨t, 0, false⟩ = K) (h9 : ((!K.2.ok) || (!decide (K.2.l.length = 0))) = true) : decE v (fb9 (ff9 k) r i t) = 3 ∧ decP v (fb9 (ff9 k) r i t) = zk 0 := by
  obtain ⟨h1, h2⟩ := fhead (i := i) (t := t) h hr
  have hF := form_3 (v := v) (K := K) h2 (by show fieldsK v (4 + (k : Int)) _ ⟨UInt8.ofNat (i / 256) :: UInt8.ofNat (i % 256) :: t, 0, false⟩ = K; rw [fields9 t h hi2]; exact hK) h9
  exact dec_form (v := v) (l := fb9 (ff9 k) r i t) (by rcases hv with rfl | rfl <;> rfl) (by rw [hF]; rfl)
include ht
theorem fgood {K : Pk × Ts} (hK : shortK v (fp9 k i 0) ⟨t, 0, false⟩ = K) (h9 : ((!K.2.ok) || (!decide (K.2.l.length = 0))) = false) (hR : rightP v K.1 = true) : decE v (fb9 (ff9 k) r i t) = 0 ∧ decP v (fb9 (ff9 k) r i t) = K.1 := by
  obtain ⟨h1, h2⟩ := fhead (i := i) (t := t) h hr
  have hF := form_4 (v := v) (K := K) h2 ⟨h1, by show ((fb9 (ff9 k) r i t).length : Int) = 2 + (r : Int); unfold fb9; simp only [List.length_cons]; omega, hok9 hv h⟩ (by show fieldsK v (4 + (k : Int)) _ ⟨UInt8.ofNat (i / 256) :: UInt8.ofNat (i % 256) :: t, 0, false⟩ = K; rw [fields9 t h hi2]; exact hK) h9
  have hD := dec_ok (v := v) (l := fb9 (ff9 k) r i t) (by rcases hv with rfl | rfl <;> rfl) (by rw [hF.1]; rfl) (by rw [hF.2, hR]; rfl)
  exact ⟨hD.1, hD.2.trans hF.2⟩
end
theorem known40 {k : Nat} (h : k < 4) : ke 4 (4 + (k : Int)) 0 = true ∧ ke 5 (4 + (k : Int)) 0 = true ∧ allL (sp 5 (4 + (k : Int))) ≠ [] := by
  have : k = 0 ∨ k = 1 ∨ k = 2 ∨ k = 3 := by omega
  rcases this with rfl | rfl | rfl | rfl <;> decide +kernel
section
variable {k i c : Nat} (h : k < 4) (hi : 0 < i) (hi2 : i < 65536) (hc : c < 256) (hk : ke 5 (4 + (k : Int)) c = true)
include h hi2
theorem form4b : decE 4 (fb9 (ff9 k) 3 i [0]) = 3 ∧ decP 4 (fb9 (ff9 k) 3 i [0]) = zk 0 :=
  fbad (r := 3) (.inl rfl) h hi2 (by decide) (K := (fp9 k i 0, ⟨[0], 0, false⟩)) rfl rfl
include hi
theorem form5a : decE 5 (fb9 (ff9 k) 2 i []) = 0 ∧ decP 5 (fb9 (ff9 k) 2 i []) = fp9 k i 0 :=
  fgood (.inr rfl) h hi2 (by decide) rfl (K := (fp9 k i 0, ⟨[], 0, false⟩)) rfl rfl (right9 (.inr rfl) h hi (known40 h).2.1)
theorem form4a : decE 4 (fb9 (ff9 k) 2 i []) = 0 ∧ decP 4 (fb9 (ff9 k) 2 i []) = fp9 k i 0 :=
  fgood (.inl rfl) h hi2 (by decide) rfl (K := (fp9 k i 0, ⟨[], 0, false⟩)) rfl rfl (right9 (.inl rfl) h hi (known40 h).1)
include hc hk
theorem form5b : decE 5 (fb9 (ff9 k) 3 i [UInt8.ofNat c]) = 0 ∧ decP 5 (fb9 (ff9 k) 3 i [UInt8.ofNat c]) = fp9 k i c := by
  refine fgood (r := 3) (.inr rfl) h hi2 (by decide) rfl (K := (fp9 k i c, ⟨[], 0, false⟩)) ?_ rfl (right9 (.inr rfl) h hi hk)
  show ({ fp9 k i 0 with code := num [UInt8.ofNat c] }, _) = _
  rw [num1, u8n hc]
  rfl
theorem form5c : decE 5 (fb9 (ff9 k) 4 i [UInt8.ofNat c, 0]) = 0 ∧ decP 5 (fb9 (ff9 k) 4 i [UInt8.ofNat c, 0]) = fp9 k i c := by
  refine fgood (r := 4) (.inr rfl) h hi2 (by decide) rfl (K := (fp9 k i c, ⟨[], 0, false⟩)) ?_ rfl (right9 (.inr rfl) h hi hk)
  have e1 : takeR [0] 0 = ([], true) := by decide +kernel
  have e2 : takeLeft [0] 0 = [] := by decide +kernel
  have e3 : takeErr [0] 0 = 0 := by decide +kernel
  show ({ fp9 k i 0 with code := num [UInt8.ofNat c], props := (takeR [0] 0).1 }, Ts.need ⟨takeLeft [0] 0, takeErr [0] 0, false⟩ (takeR [0] 0).2) = _
  rw [num1, u8n hc, e1, e2, e3]
  rfl
end
theorem b8_cons9 {x : Nat} (t : List UInt8) (h : x < 256) : B8 (UInt8.ofNat x :: t) = .int .u8 (x : Int) :: B8 t := by
  show Value.int .u8 ((UInt8.ofNat x).toNat : Int) :: B8 t = _
  rw [u8n h]
theorem row_blk9 {w : World} {b : Nat} {t : TypeId} {c : Array Value} {xs : List Value} (hB : Blk w b t c) (h : c.toList = xs) : Row w (some ⟨b, 0, none⟩) xs :=
  .inr ⟨b, 0, rfl, hB.lt, fun j u hj => by
    have h1 := hB.cell (0 + j)
    rw [h1]
    rw [← h] at hj
    simpa using hj⟩
theorem cv16_8 (n : Nat) (w : World) (h : n < 256) : (convert 22 5 (.int .u16 (n : Int))).run Tryz.prog w = .ok (.int .u8 (n : Int)) w := by
  have u := Tryz.underlying22
  have u2 := Tryz.underlying5
  have e : IntKind.u8.wrap (n : Int) = n := by rw [IntKind.wrap_u8]; omega
  go_simp
  try exact e
set_option maxHeartbeats 8000000 in
theorem decodeForms_walk (kd : Int) (i0 n : Nat) (w : World) (hi0 : i0 < 65536) (hn : n < 256) (hT : Tabs w) :
    Calls Tryz.prog 12 #[.int .i64 kd, .int .u16 (i0 : Int), .int .u8 (n : Int)] w fun e w' => e = .returned (.bool true) ∧ Below w.heap.size w w' := by
  obtain ⟨k, hkm, hk⟩ := kind_mod kd 4 (by decide) (by decide)
  obtain ⟨c, hc⟩ : ∃ c, rfx 5 (4 + (k : Int)) n = c := ⟨_, rfl⟩
  have hc8 : c < 256 := by rw [← hc]; exact rfx_lt _ _ _
  have hcK : ke 5 (4 + (k : Int)) c = true := by rw [← hc]; exact rfx_known (known40 hk).2.2
  have HF : ∀ W, Calls Tryz.prog 35 #[.int .i64 5, .int .i64 (4 + (k : Int)), .int .u8 (n : Int)] W fun e w' => e = .returned (.int .u8 (c : Int)) ∧ Kept No W w' := fun W => by have h9 := rcfix_any 5 (4 + (k : Int)) n W hn; rw [hc] at h9; exact h9
  have hff := ff9_le hk
  let RR : Ending → World → Prop := fun e w' => e = .returned (.bool true) ∧ Below w.heap.size w w'
  go_enter Tryz.func12, Tryz.ntmps12
  generalize hA : ({ tmps := _, defers := [] } : Act) = A
  have F : Fr A 151 [(2, (.int .u8 ((n : Int)))), (1, (.int .u16 ((i0 : Int)))), (0, (.int .i64 kd))] := by rw [← hA]; exact (Fr.cons (i := 2) (v := (.int .u8 ((n : Int)))) (Fr.cons (i := 1) (v := (.int .u16 ((i0 : Int)))) (Fr.cons (i := 0) (v := (.int .i64 kd)) (Fr.nil0 rfl rfl) rfl) rfl) rfl)
  clear hA; have H := Hp.start w
  refine wp_seq_k (fun K1 hK1 => gx_region ?_)
  refine zd ?_; clear F A; intro A F
  refine wpList_nil (hK1 _ _ ?_)
  refine wp_seq_k (fun K2 hK2 => gx_region ?_)
  refine zd ?_; clear F A; intro A F
  refine hz_do F rfl (ex_conv rfl (F.e rfl) (cv_u64 _ _)) ?_; clear F A; intro A F
  refine zb (rn_rem (by decide) hkm) ?_; clear F A; intro A F
  refine hz_do F rfl (ex_conv rfl (F.e rfl) (cv_i64 _ _ (by omega))) ?_; clear F A; intro A F
  refine hz_do F rfl (ex_bin rfl gx_evc (F.e rfl) (rn_add (gx_wrap_i64 (by omega) (by omega)))) ?_; clear F A; intro A F
  refine zd ?_; clear F A; intro A F
  refine wpList_nil (hK2 _ _ ?_)
  refine wp_seq_k (fun K3 hK3 => gx_region ?_)
  iterate 2 (refine zd ?_; clear F A; intro A F)
  refine wpList_nil (hK3 _ _ ?_)
  refine hz_cut (fun A W => ∃ i : Nat, Fr A 151 [(2, (.int .u8 ((n : Int)))), (6, (.bool false)), (7, (.int .i64 (4 + ((k : Int))))), (8, (.int .u16 ((i : Int))))] ∧ Hp w W [] ∧ (0 < i) ∧ (i < 65536)) (fun A W hM => ?_) (fun K4 hK4 => ?_)
  rotate_left
  · skip
    refine wp_seq_k (fun K5 hK5 => gx_region ?_)
    refine zd ?_; clear F A; intro A F
    refine zb (rn_eqlN (i := i0) (j := 0)) ?_; clear F A; intro A F
    refine wpList_nil (hK5 _ _ ?_)
    refine zc (fun hb6 => ?_) (fun hb6 => ?_)
    · skip
      refine gx_region ?_
      refine zd ?_; clear F A; intro A F
      refine wpList_nil ?_
      exact hK4 _ _ ⟨1, ((((F.nil.cons (gx_is (F.g 8 _ rfl) (rfl))).cons (F.g 7 _ rfl)).cons (F.g 6 _ rfl)).cons (F.g 2 _ rfl)), H, (by decide), (by decide)⟩
    refine wp_skip ?_
    exact hK4 _ _ ⟨i0, ((((F.nil.cons (F.g 8 _ rfl)).cons (F.g 7 _ rfl)).cons (F.g 6 _ rfl)).cons (F.g 2 _ rfl)), H, (by have h9 := of_decide_eq_false hb6; omega), hi0⟩
  clear F H; obtain ⟨i, F, H, hi, hi2⟩ := hM
  refine wp_seq_k (fun K7 hK7 => gx_region ?_)
  iterate 2 (refine zd ?_; clear F A; intro A F)
  refine hz_callk F H rfl (ex_call rfl rfl (gx_l1 gx_evc (gx_l1 (F.e rfl) (gx_l1 (F.e rfl) gx_l0))) fn_35) (HF _) ?_; clear F H A; intro W A hk H F
  clear hk
  refine zd ?_; clear F A; intro A F
  refine wpList_nil (hK7 _ _ ?_)
  refine wp_seq_k (fun K9 hK9 => gx_region ?_)
  refine zd ?_; clear F A; intro A F
  refine hz_do F rfl (ex_bin rfl gx_evc (F.e rfl) (rn_mul (gx_wrap_i64 (by omega) (by omega)))) ?_; clear F A; intro A F
  refine hz_do (v := (.int .u8 (((16 * (4 + k) : Nat) : Int)))) F rfl (ex_conv rfl (F.e rfl) (by rw [show (16 : Int) * (4 + (k : Int)) = ((16 * (4 + k) : Nat) : Int) by omega]; exact cvI8 _ _ (by omega) (by omega))) ?_; clear F A; intro A F
  refine zd ?_; clear F A; intro A F
  refine wpList_nil (hK9 _ _ ?_)
  refine hz_cut (fun A W => ∃ f : Nat, Fr A 151 [(6, (.bool false)), (8, (.int .u16 ((i : Int)))), (9, (.int .u8 ((c : Int)))), (10, (.int .u8 ((f : Int))))] ∧ Hp w W [] ∧ (f = ff9 k)) (fun A W hM => ?_) (fun K10 hK10 => ?_)
  rotate_left
  · skip
    refine wp_seq_k (fun K11 hK11 => gx_region ?_)
    refine zd ?_; clear F A; intro A F
    refine zb (rn_eql) ?_; clear F A; intro A F
    refine wpList_nil (hK11 _ _ ?_)
    refine zc (fun hb12 => ?_) (fun hb12 => ?_)
    · skip
      refine gx_region ?_
      refine zd ?_; clear F A; intro A F
      refine hz_do F rfl (ex_bin rfl (F.e rfl) gx_evc (rn_add (gx_wrap_u8 (by omega) (by omega)))) ?_; clear F A; intro A F
      refine zd ?_; clear F A; intro A F
      refine wpList_nil ?_
      exact hK10 _ _ ⟨(ff9 k), ((((F.nil.cons (gx_is (F.g 10 _ rfl) (congrArg (Value.int .u8) (by have h9 := of_decide_eq_true hb12; unfold ff9; rw [if_pos (by omega)]; omega)))).cons (F.g 9 _ rfl)).cons (F.g 8 _ rfl)).cons (F.g 6 _ rfl)), H, rfl⟩
    refine wp_skip ?_
    exact hK10 _ _ ⟨(ff9 k), ((((F.nil.cons (gx_is (F.g 10 _ rfl) (congrArg (Value.int .u8) (by have h9 := of_decide_eq_false hb12; unfold ff9; rw [if_neg (by omega)]; omega)))).cons (F.g 9 _ rfl)).cons (F.g 8 _ rfl)).cons (F.g 6 _ rfl)), H, rfl⟩
  clear F H; obtain ⟨f, F, H, hf⟩ := hM
  have d5a := form5a hk hi hi2; have d4a := form4a hk hi hi2; have d4b := form4b (i := i) hk hi2; have d5b := form5b hk hi hi2 hc8 hcK; have d5c := form5c hk hi hi2 hc8 hcK
  rw [← hf] at d5a d4a d4b d5b d5c; have hf8 : f < 256 := by rw [hf]; exact hff.1
  refine wp_seq_k (fun K13 hK13 => gx_region ?_)
  refine zd ?_; clear F A; intro A F
  refine hz_do F rfl (ex_bin rfl (F.e rfl) gx_evc (rn_quoN (i := i) (j := 256) (by decide) (gx_wrap_u16 (by omega) (by omega)))) ?_; clear F A; intro A F
  refine hz_do (v := (.int .u8 (((i / 256 : Nat) : Int)))) F rfl (ex_conv rfl (F.e rfl) (cv16_8 _ _ (by omega))) ?_; clear F A; intro A F
  refine zd ?_; clear F A; intro A F
  refine zb (rn_remN (i := i) (j := 256) (by decide)) ?_; clear F A; intro A F
  refine hz_do (v := (.int .u8 (((i % 256 : Nat) : Int)))) F rfl (ex_conv rfl (F.e rfl) (cv16_8 _ _ (by omega))) ?_; clear F A; intro A F
  iterate 2 (refine zd ?_; clear F A; intro A F)
  refine wpList_nil (hK13 _ _ ?_)
  refine wp_seq_k (fun K14 hK14 => gx_region ?_)
  iterate 3 (refine zd ?_; clear F A; intro A F)
  refine hz_bs (c := #[(.int .u8 ((f : Int))), (.int .u8 2), (.int .u8 (((i / 256 : Nat) : Int))), (.int .u8 (((i % 256 : Nat) : Int)))]) (t := 5) (m := 4) F H rfl (ex_buildSlice rfl (gx_p1 (F.e rfl) (gx_p1 gx_evc (gx_p1 (F.e rfl) (gx_p1 (F.e rfl) gx_p0)))) (by kernel_rfl)) ?_; clear F A; intro b15 W A hk hN H9 F; clear H; have H := H9; clear H9
  clear hk hN
  refine hz_call (R := fun vv ww => ∃ s1, vv = .tuple #[Pk.val (fp9 k i 0) s1, .int .i64 0]) F H rfl (ex_call rfl rfl (gx_l1 gx_evc (gx_l1 (F.e rfl) gx_l0)) fn_31) ((decode_any9 5 (some ⟨b15, 0, none⟩) 4 (fb9 f 2 i []) _ (row_blk9 (H.b.at_ (j := 0) rfl).1 (by show _ = B8 (UInt8.ofNat f :: UInt8.ofNat 2 :: UInt8.ofNat (i / 256) :: UInt8.ofNat (i % 256) :: []); rw [b8_cons9 _ hf8, b8_cons9 _ (by decide), b8_cons9 _ (by omega), b8_cons9 _ (by omega)]; rfl)) (by intro h; cases h) (by unfold fb9; simp) (by unfold fb9; simp) (hT.kept H.k)).mono fun e9 ww ⟨u, h91, ⟨s1, h92, _⟩, h93⟩ => ⟨u, h91, ⟨s1, by rw [h92, d5a.1, d5a.2]⟩, h93⟩) ?_; clear F H A; intro vv W A hR hk H F; obtain ⟨s16, rfl⟩ := hR
  clear hk
  iterate 3 (refine zd ?_; clear F A; intro A F)
  refine hz_new (c := zeroPk) (t := 33) F H rfl (ex_alloc rfl (al_33 _)) ?_; clear F A; intro b17 W A hk hN H9 F; clear H; have H := H9; clear H9
  clear hk hN
  obtain ⟨W9, hr, hB, hk⟩ := gx_storeAgg (P := Tryz.prog) (S := 33) (c := (Pk.cells ((fp9 k i 0)) s16)) _ (H.b.at_ (j := 0) rfl).1 (gs_33 _) rfl (pk_one _ _)
  refine hz_st (ex_store rfl (F.e rfl) (F.e rfl) hr) ?_; clear hr; replace H : Hp _ _ [_, _] := Hp.turn [] H hk hB; clear hk hB
  refine zd ?_; clear F A; intro A F
  refine wpList_nil (hK14 _ _ ?_)
  refine wp_seq_k (fun K18 hK18 => gx_region ?_)
  iterate 4 (refine zd ?_; clear F A; intro A F)
  refine hz_bs (c := #[(.int .u8 ((f : Int))), (.int .u8 3), (.int .u8 (((i / 256 : Nat) : Int))), (.int .u8 (((i % 256 : Nat) : Int))), (.int .u8 ((c : Int)))]) (t := 5) (m := 5) F H rfl (ex_buildSlice rfl (gx_p1 (F.e rfl) (gx_p1 gx_evc (gx_p1 (F.e rfl) (gx_p1 (F.e rfl) (gx_p1 (F.e rfl) gx_p0))))) (by kernel_rfl)) ?_; clear F A; intro b19 W A hk hN H9 F; clear H; have H := H9; clear H9
  clear hk hN
  refine hz_call (R := fun vv ww => ∃ s1, vv = .tuple #[Pk.val (fp9 k i c) s1, .int .i64 0]) F H rfl (ex_call rfl rfl (gx_l1 gx_evc (gx_l1 (F.e rfl) gx_l0)) fn_31) ((decode_any9 5 (some ⟨b19, 0, none⟩) 5 (fb9 f 3 i [UInt8.ofNat c]) _ (row_blk9 (H.b.at_ (j := 0) rfl).1 (by show _ = B8 (UInt8.ofNat f :: UInt8.ofNat 3 :: UInt8.ofNat (i / 256) :: UInt8.ofNat (i % 256) :: [UInt8.ofNat c]); rw [b8_cons9 _ hf8, b8_cons9 _ (by decide), b8_cons9 _ (by omega), b8_cons9 _ (by omega), b8_cons9 _ hc8]; rfl)) (by intro h; cases h) (by unfold fb9; simp) (by unfold fb9; simp) (hT.kept H.k)).mono fun e9 ww ⟨u, h91, ⟨s1, h92, _⟩, h93⟩ => ⟨u, h91, ⟨s1, by rw [h92, d5b.1, d5b.2]⟩, h93⟩) ?_; clear F H A; intro vv W A hR hk H F; obtain ⟨s20, rfl⟩ := hR
  clear hk
  iterate 3 (refine zd ?_; clear F A; intro A F)
  refine hz_new (c := zeroPk) (t := 33) F H rfl (ex_alloc rfl (al_33 _)) ?_; clear F A; intro b21 W A hk hN H9 F; clear H; have H := H9; clear H9
  clear hk hN
  obtain ⟨W9, hr, hB, hk⟩ := gx_storeAgg (P := Tryz.prog) (S := 33) (c := (Pk.cells ((fp9 k i c)) s20)) _ (H.b.at_ (j := 0) rfl).1 (gs_33 _) rfl (pk_one _ _)
  refine hz_st (ex_store rfl (F.e rfl) (F.e rfl) hr) ?_; clear hr; replace H : Hp _ _ [_, _, _, _] := Hp.turn [] H hk hB; clear hk hB
  refine zd ?_; clear F A; intro A F
  refine wpList_nil (hK18 _ _ ?_)
  refine wp_seq_k (fun K22 hK22 => gx_region ?_)
  iterate 4 (refine zd ?_; clear F A; intro A F)
  refine hz_bs (c := #[(.int .u8 ((f : Int))), (.int .u8 4), (.int .u8 (((i / 256 : Nat) : Int))), (.int .u8 (((i % 256 : Nat) : Int))), (.int .u8 ((c : Int))), (.int .u8 0)]) (t := 5) (m := 6) F H rfl (ex_buildSlice rfl (gx_p1 (F.e rfl) (gx_p1 gx_evc (gx_p1 (F.e rfl) (gx_p1 (F.e rfl) (gx_p1 (F.e rfl) (gx_p1 gx_evc gx_p0)))))) (by kernel_rfl)) ?_; clear F A; intro b23 W A hk hN H9 F; clear H; have H := H9; clear H9
  clear hk hN
  refine hz_call (R := fun vv ww => ∃ s1, vv = .tuple #[Pk.val (fp9 k i c) s1, .int .i64 0]) F H rfl (ex_call rfl rfl (gx_l1 gx_evc (gx_l1 (F.e rfl) gx_l0)) fn_31) ((decode_any9 5 (some ⟨b23, 0, none⟩) 6 (fb9 f 4 i [UInt8.ofNat c, 0]) _ (row_blk9 (H.b.at_ (j := 0) rfl).1 (by show _ = B8 (UInt8.ofNat f :: UInt8.ofNat 4 :: UInt8.ofNat (i / 256) :: UInt8.ofNat (i % 256) :: [UInt8.ofNat c, 0]); rw [b8_cons9 _ hf8, b8_cons9 _ (by decide), b8_cons9 _ (by omega), b8_cons9 _ (by omega), b8_cons9 _ hc8]; rfl)) (by intro h; cases h) (by unfold fb9; simp) (by unfold fb9; simp) (hT.kept H.k)).mono fun e9 ww ⟨u, h91, ⟨s1, h92, _⟩, h93⟩ => ⟨u, h91, ⟨s1, by rw [h92, d5c.1, d5c.2]⟩, h93⟩) ?_; clear F H A; intro vv W A hR hk H F; obtain ⟨s24, rfl⟩ := hR
  clear hk
  iterate 3 (refine zd ?_; clear F A; intro A F)
  refine hz_new (c := zeroPk) (t := 33) F H rfl (ex_alloc rfl (al_33 _)) ?_; clear F A; intro b25 W A hk hN H9 F; clear H; have H := H9; clear H9
  clear hk hN
  obtain ⟨W9, hr, hB, hk⟩ := gx_storeAgg (P := Tryz.prog) (S := 33) (c := (Pk.cells ((fp9 k i c)) s24)) _ (H.b.at_ (j := 0) rfl).1 (gs_33 _) rfl (pk_one _ _)
  refine hz_st (ex_store rfl (F.e rfl) (F.e rfl) hr) ?_; clear hr; replace H : Hp _ _ [_, _, _, _, _, _] := Hp.turn [] H hk hB; clear hk hB
  refine zd ?_; clear F A; intro A F
  refine wpList_nil (hK22 _ _ ?_)
  refine wp_seq_k (fun K26 hK26 => gx_region ?_)
  iterate 3 (refine zd ?_; clear F A; intro A F)
  refine hz_bs (c := #[(.int .u8 ((f : Int))), (.int .u8 2), (.int .u8 (((i / 256 : Nat) : Int))), (.int .u8 (((i % 256 : Nat) : Int)))]) (t := 5) (m := 4) F H rfl (ex_buildSlice rfl (gx_p1 (F.e rfl) (gx_p1 gx_evc (gx_p1 (F.e rfl) (gx_p1 (F.e rfl) gx_p0)))) (by kernel_rfl)) ?_; clear F A; intro b27 W A hk hN H9 F; clear H; have H := H9; clear H9
  clear hk hN
  refine hz_call (R := fun vv ww => ∃ s1, vv = .tuple #[Pk.val (fp9 k i 0) s1, .int .i64 0]) F H rfl (ex_call rfl rfl (gx_l1 gx_evc (gx_l1 (F.e rfl) gx_l0)) fn_31) ((decode_any9 4 (some ⟨b27, 0, none⟩) 4 (fb9 f 2 i []) _ (row_blk9 (H.b.at_ (j := 0) rfl).1 (by show _ = B8 (UInt8.ofNat f :: UInt8.ofNat 2 :: UInt8.ofNat (i / 256) :: UInt8.ofNat (i % 256) :: []); rw [b8_cons9 _ hf8, b8_cons9 _ (by decide), b8_cons9 _ (by omega), b8_cons9 _ (by omega)]; rfl)) (by intro h; cases h) (by unfold fb9; simp) (by unfold fb9; simp) (hT.kept H.k)).mono fun e9 ww ⟨u, h91, ⟨s1, h92, _⟩, h93⟩ => ⟨u, h91, ⟨s1, by rw [h92, d4a.1, d4a.2]⟩, h93⟩) ?_; clear F H A; intro vv W A hR hk H F; obtain ⟨s28, rfl⟩ := hR
  clear hk
  iterate 3 (refine zd ?_; clear F A; intro A F)
  refine hz_new (c := zeroPk) (t := 33) F H rfl (ex_alloc rfl (al_33 _)) ?_; clear F A; intro b29 W A hk hN H9 F; clear H; have H := H9; clear H9
  clear hk hN
  obtain ⟨W9, hr, hB, hk⟩ := gx_storeAgg (P := Tryz.prog) (S := 33) (c := (Pk.cells ((fp9 k i 0)) s28)) _ (H.b.at_ (j := 0) rfl).1 (gs_33 _) rfl (pk_one _ _)
  refine hz_st (ex_store rfl (F.e rfl) (F.e rfl) hr) ?_; clear hr; replace H : Hp _ _ [_, _, _, _, _, _, _, _] := Hp.turn [] H hk hB; clear hk hB
  refine zd ?_; clear F A; intro A F
  refine wpList_nil (hK26 _ _ ?_)
  refine wp_seq_k (fun K30 hK30 => gx_region ?_)
  iterate 3 (refine zd ?_; clear F A; intro A F)
  refine hz_bs (c := #[(.int .u8 ((f : Int))), (.int .u8 3), (.int .u8 (((i / 256 : Nat) : Int))), (.int .u8 (((i % 256 : Nat) : Int))), (.int .u8 0)]) (t := 5) (m := 5) F H rfl (ex_buildSlice rfl (gx_p1 (F.e rfl) (gx_p1 gx_evc (gx_p1 (F.e rfl) (gx_p1 (F.e rfl) (gx_p1 gx_evc gx_p0))))) (by kernel_rfl)) ?_; clear F A; intro b31 W A hk hN H9 F; clear H; have H := H9; clear H9
  clear hk hN
  refine hz_call (R := fun vv ww => ∃ s1, vv = .tuple #[Pk.val (zk 0) s1, .int .i64 3]) F H rfl (ex_call rfl rfl (gx_l1 gx_evc (gx_l1 (F.e rfl) gx_l0)) fn_31) ((decode_any9 4 (some ⟨b31, 0, none⟩) 5 (fb9 f 3 i [0]) _ (row_blk9 (H.b.at_ (j := 0) rfl).1 (by show _ = B8 (UInt8.ofNat f :: UInt8.ofNat 3 :: UInt8.ofNat (i / 256) :: UInt8.ofNat (i % 256) :: [0]); rw [b8_cons9 _ hf8, b8_cons9 _ (by decide), b8_cons9 _ (by omega), b8_cons9 _ (by omega)]; rfl)) (by intro h; cases h) (by unfold fb9; simp) (by unfold fb9; simp) (hT.kept H.k)).mono fun e9 ww ⟨u, h91, ⟨s1, h92, _⟩, h93⟩ => ⟨u, h91, ⟨s1, by rw [h92, d4b.1, d4b.2]⟩, h93⟩) ?_; clear F H A; intro vv W A hR hk H F; obtain ⟨s32, rfl⟩ := hR
  clear hk
  iterate 3 (refine zd ?_; clear F A; intro A F)
  refine hz_new (c := zeroPk) (t := 33) F H rfl (ex_alloc rfl (al_33 _)) ?_; clear F A; intro b33 W A hk hN H9 F; clear H; have H := H9; clear H9
  clear hk hN
  obtain ⟨W9, hr, hB, hk⟩ := gx_storeAgg (P := Tryz.prog) (S := 33) (c := (Pk.cells ((zk 0)) s32)) _ (H.b.at_ (j := 0) rfl).1 (gs_33 _) rfl (pk_one _ _)
  refine hz_st (ex_store rfl (F.e rfl) (F.e rfl) hr) ?_; clear hr; replace H : Hp _ _ [_, _, _, _, _, _, _, _, _, _] := Hp.turn [] H hk hB; clear hk hB
  refine zd ?_; clear F A; intro A F
  refine wpList_nil (hK30 _ _ ?_)
  refine wp_seq_k (fun K34 hK34 => gx_region ?_)
  refine hz_callk F H rfl (ex_call rfl rfl gx_l0 fn_30) (told9_any _ (hT.kept H.k)) ?_; clear F H A; intro W A hk H F
  clear hk
  refine zd ?_; clear F A; intro A F
  refine hz_do1 F rfl (hw_t F rfl rfl rfl) (ex_move rfl (F.e rfl)) ?_; clear F A; intro A F
  refine hz_do1 F rfl (hw_t F rfl rfl rfl) (ex_bin rfl (F.e rfl) gx_evc (rn_eql)) ?_; clear F A; intro A F
  refine hz_do F rfl (ex_pickT rfl (F.e rfl) (F.e rfl)) ?_; clear F A; intro A F
  refine zd ?_; clear F A; intro A F
  refine hz_do1 F rfl (hw_t F rfl rfl rfl) (ex_move rfl (F.e rfl)) ?_; clear F A; intro A F
  refine hz_do1 F rfl (hw_t F rfl rfl rfl) (ex_bin rfl (F.e rfl) gx_evc (rn_eql)) ?_; clear F A; intro A F
  refine hz_do F rfl (ex_pickT rfl (F.e rfl) (F.e rfl)) ?_; clear F A; intro A F
  refine zd ?_; clear F A; intro A F
  refine hz_do1 F rfl (hw_t F rfl rfl rfl) (ex_move rfl (F.e rfl)) ?_; clear F A; intro A F
  refine hz_do1 F rfl (hw_t F rfl rfl rfl) (ex_bin rfl (F.e rfl) gx_evc (rn_eql)) ?_; clear F A; intro A F
  refine hz_do F rfl (ex_pickT rfl (F.e rfl) (F.e rfl)) ?_; clear F A; intro A F
  refine zd ?_; clear F A; intro A F
  refine hz_do1 F rfl (hw_t F rfl rfl rfl) (ex_move rfl (F.e rfl)) ?_; clear F A; intro A F
  refine hz_do1 F rfl (hw_t F rfl rfl rfl) (ex_bin rfl (F.e rfl) gx_evc (rn_eql)) ?_; clear F A; intro A F
  refine hz_do F rfl (ex_pickT rfl (F.e rfl) (F.e rfl)) ?_; clear F A; intro A F
  refine zd ?_; clear F A; intro A F
  refine hz_do1 F rfl (hw_t F rfl rfl rfl) (ex_move rfl (F.e rfl)) ?_; clear F A; intro A F
  refine hz_do1 F rfl (hw_t F rfl rfl rfl) (ex_bin rfl (F.e rfl) gx_evc (rn_eql)) ?_; clear F A; intro A F
  refine hz_do F rfl (ex_pickT rfl (F.e rfl) (F.e rfl)) ?_; clear F A; intro A F
  refine zd ?_; clear F A; intro A F
  refine hz_do1 F rfl (hw_t F rfl rfl rfl) (ex_faddr rfl (F.e rfl) (fa_33_19 _ _ _)) ?_; clear F A; intro A F
  refine hz_do1 F rfl (hw_t F rfl rfl rfl) (ex_load rfl (F.e rfl) (gl_one (ag_5 _) (H.c 8 rfl rfl))) ?_; clear F A; intro A F
  refine hz_do1 F rfl (hw_t F rfl rfl rfl) (ex_bin rfl (F.e rfl) gx_evc (rn_eqlN (i := ((fp9 k i 0)).code) (j := 0))) ?_; clear F A; intro A F
  have hr36 : (decide (((fp9 k i 0)).code = 0)) = true := (decide_eq_true rfl)
  replace F := F.hd (congrArg Value.bool hr36)
  refine hz_do F rfl (ex_pickT rfl (F.e rfl) (F.e rfl)) ?_; clear F A; intro A F
  refine zd ?_; clear F A; intro A F
  refine hz_do1 F rfl (hw_t F rfl rfl rfl) (ex_faddr rfl (F.e rfl) (fa_33_19 _ _ _)) ?_; clear F A; intro A F
  refine hz_do1 F rfl (hw_t F rfl rfl rfl) (ex_load rfl (F.e rfl) (gl_one (ag_5 _) (H.c 6 rfl rfl))) ?_; clear F A; intro A F
  refine hz_do1 F rfl (hw_t F rfl rfl rfl) (ex_move rfl (F.e rfl)) ?_; clear F A; intro A F
  refine hz_do1 F rfl (hw_t F rfl rfl rfl) (ex_bin rfl (F.e rfl) (F.e rfl) (rn_eqlN (i := ((fp9 k i c)).code) (j := c))) ?_; clear F A; intro A F
  have hr37 : (decide (((fp9 k i c)).code = c)) = true := (decide_eq_true rfl)
  replace F := F.hd (congrArg Value.bool hr37)
  refine hz_do F rfl (ex_pickT rfl (F.e rfl) (F.e rfl)) ?_; clear F A; intro A F
  refine zd ?_; clear F A; intro A F
  refine hz_do1 F rfl (hw_t F rfl rfl rfl) (ex_faddr rfl (F.e rfl) (fa_33_19 _ _ _)) ?_; clear F A; intro A F
  refine hz_do1 F rfl (hw_t F rfl rfl rfl) (ex_load rfl (F.e rfl) (gl_one (ag_5 _) (H.c 4 rfl rfl))) ?_; clear F A; intro A F
  refine hz_do1 F rfl (hw_t F rfl rfl rfl) (ex_move rfl (F.e rfl)) ?_; clear F A; intro A F
  refine hz_do1 F rfl (hw_t F rfl rfl rfl) (ex_bin rfl (F.e rfl) (F.e rfl) (rn_eqlN (i := ((fp9 k i c)).code) (j := c))) ?_; clear F A; intro A F
  replace F := F.hd (congrArg Value.bool hr37)
  refine hz_do F rfl (ex_pickT rfl (F.e rfl) (F.e rfl)) ?_; clear F A; intro A F
  refine zd ?_; clear F A; intro A F
  refine hz_do1 F rfl (hw_t F rfl rfl rfl) (ex_faddr rfl (F.e rfl) (fa_33_4 _ _ _)) ?_; clear F A; intro A F
  refine hz_do1 F rfl (hw_t F rfl rfl rfl) (ex_load rfl (F.e rfl) (gl_one (ag_22 _) (H.c 8 rfl rfl))) ?_; clear F A; intro A F
  refine hz_do1 F rfl (hw_t F rfl rfl rfl) (ex_move rfl (F.e rfl)) ?_; clear F A; intro A F
  refine hz_do1 F rfl (hw_t F rfl rfl rfl) (ex_bin rfl (F.e rfl) (F.e rfl) (rn_eqlN (i := ((fp9 k i 0)).id) (j := i))) ?_; clear F A; intro A F
  have hr38 : (decide (((fp9 k i 0)).id = i)) = true := (decide_eq_true rfl)
  replace F := F.hd (congrArg Value.bool hr38)
  refine hz_do F rfl (ex_pickT rfl (F.e rfl) (F.e rfl)) ?_; clear F A; intro A F
  refine zd ?_; clear F A; intro A F
  refine hz_do1 F rfl (hw_t F rfl rfl rfl) (ex_faddr rfl (F.e rfl) (fa_33_4 _ _ _)) ?_; clear F A; intro A F
  refine hz_do1 F rfl (hw_t F rfl rfl rfl) (ex_load rfl (F.e rfl) (gl_one (ag_22 _) (H.c 6 rfl rfl))) ?_; clear F A; intro A F
  refine hz_do1 F rfl (hw_t F rfl rfl rfl) (ex_move rfl (F.e rfl)) ?_; clear F A; intro A F
  refine hz_do1 F rfl (hw_t F rfl rfl rfl) (ex_bin rfl (F.e rfl) (F.e rfl) (rn_eqlN (i := ((fp9 k i c)).id) (j := i))) ?_; clear F A; intro A F
  have hr39 : (decide (((fp9 k i c)).id = i)) = true := (decide_eq_true rfl)
  replace F := F.hd (congrArg Value.bool hr39)
  refine hz_do F rfl (ex_pickT rfl (F.e rfl) (F.e rfl)) ?_; clear F A; intro A F
  refine zd ?_; clear F A; intro A F
  refine hz_do1 F rfl (hw_t F rfl rfl rfl) (ex_faddr rfl (F.e rfl) (fa_33_4 _ _ _)) ?_; clear F A; intro A F
  refine hz_do1 F rfl (hw_t F rfl rfl rfl) (ex_load rfl (F.e rfl) (gl_one (ag_22 _) (H.c 4 rfl rfl))) ?_; clear F A; intro A F
  refine hz_do1 F rfl (hw_t F rfl rfl rfl) (ex_move rfl (F.e rfl)) ?_; clear F A; intro A F
  refine hz_do1 F rfl (hw_t F rfl rfl rfl) (ex_bin rfl (F.e rfl) (F.e rfl) (rn_eqlN (i := ((fp9 k i c)).id) (j := i))) ?_; clear F A; intro A F
  replace F := F.hd (congrArg Value.bool hr39)
  refine hz_do F rfl (ex_pickT rfl (F.e rfl) (F.e rfl)) ?_; clear F A; intro A F
  refine zd ?_; clear F A; intro A F
  refine hz_do1 F rfl (hw_t F rfl rfl rfl) (ex_faddr rfl (F.e rfl) (fa_33_24 _ _ _)) ?_; clear F A; intro A F
  refine hz_do1 F rfl (hw_t F rfl rfl rfl) (ex_load rfl (F.e rfl) (gl_one (ag_30 _) (H.c 4 rfl rfl))) ?_; clear F A; intro A F
  refine hz_do1 F rfl (hw_t F rfl rfl rfl) (ex_len rfl (gx_l1 (F.e rfl) gx_l0) (rn_lens Tryz.underlying30)) ?_; clear F A; intro A F
  refine hz_do1 F rfl (hw_t F rfl rfl rfl) (ex_bin rfl (F.e rfl) gx_evc (rn_eqlN (i := ((((fp9 k i c)).props).length)) (j := 0))) ?_; clear F A; intro A F
  have hr40 : (decide (((((fp9 k i c)).props).length) = 0)) = true := (decide_eq_true rfl)
  replace F := F.hd (congrArg Value.bool hr40)
  refine hz_do F rfl (ex_pickT rfl (F.e rfl) (F.e rfl)) ?_; clear F A; intro A F
  refine zd ?_; clear F A; intro A F
  refine wpList_nil (hK34 _ _ ?_)
  refine gx_ret ?_
  refine (show bodyPost _ Tryz.f12 RR Exit.ret _ _ from zr ?_)
  exact ⟨by first | rfl | simp, H.k.below (Nat.le_refl _) (fun _ _ f9 => f9)⟩
theorem decodeForms_full (kd i n : Int) (w : World) (w0 : (Lit.int .i64 kd).wf = true) (w1 : (Lit.int .u16 i).wf = true) (w2 : (Lit.int .u8 n).wf = true) (hT : Tabs w) :
    Calls Tryz.prog 12 #[.int .i64 kd, .int .u16 i, .int .u8 n] w fun e w' => e = .returned (.bool true) ∧ Below w.heap.size w w' := by
  have b := bounds_u8 w2
  have b1 := bounds_u16 w1
  obtain ⟨m, rfl⟩ := Int.eq_ofNat_of_zero_le b.1
  obtain ⟨j, rfl⟩ := Int.eq_ofNat_of_zero_le b1.1
  exact decodeForms_walk kd j m w (by omega) (by omega) hT
end Go.Proofs.YtomppebamfpimaaGreatDoor
