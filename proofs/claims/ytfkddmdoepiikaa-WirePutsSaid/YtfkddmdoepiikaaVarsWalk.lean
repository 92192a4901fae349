/-
  The walk of WireVars.
-/
import Derived.Test.YtfkddmdoepiikaaTold
import Derived.Test.YtfkddmdoepiikaaRef3
import Derived.Test.YtfkddmdoepiikaaRefl
import Derived.Deep.RegionHeld3
namespace Go.Proofs.Ytfkddmdoepiikaa
open Go.RowKit
set_option linter.unusedVariables false
set_option linter.unusedSimpArgs false

/-- What is told of a Var is laid by just the bytes that it was taken from. -/
theorem rv_var7 : ∀ (f i n : Nat) (l : List UInt8) (x : Nat) (l' : List UInt8), rv f i n l 0 = (x, l', 0) → ∃ y, x = n + y * 128 ^ i ∧ l = var7 y ++ l' ∧ (0 < i → 0 < y) := by
  intro f
  induction f with
  | zero => intro i n l x l' h; simp [rv] at h
  | succ f ih =>
    intro i n l x l' h
    cases l with
    | nil => rw [rv_nil] at h; simp at h
    | cons c t =>
      by_cases hc : 128 ≤ c.toNat
      · rw [rv_cons_more _ _ _ _ _ hc] at h
        obtain ⟨y, hx, ht, hy⟩ := ih _ _ _ _ _ h
        have hy0 : 0 < y := hy (by omega)
        refine ⟨c.toNat % 128 + 128 * y, ?_, ?_, fun _ => by omega⟩
        · rw [hx, Nat.pow_succ, Nat.add_mul, Nat.mul_comm (128 ^ i) 128, ← Nat.mul_assoc, Nat.mul_comm y 128]; omega
        · rw [var7_ge (by omega), ht]
          have e1 : (c.toNat % 128 + 128 * y) / 128 = y := by omega
          have hlt := byte_lt c
          have e2 : byteOf (((c.toNat % 128 + 128 * y : Nat) : Int) % 128 + 128) = c := by
            unfold byteOf
            have : (((c.toNat % 128 + 128 * y : Nat) : Int) % 128 + 128).toNat = c.toNat := by omega
            rw [this]; simp
          rw [e1, e2]; rfl
      · by_cases hz : c.toNat = 0 ∧ 0 < i
        · rw [rv_cons_zero _ _ _ _ _ hz.1 hz.2] at h; simp at h
        · rw [rv_cons_done _ _ _ _ _ (by omega) hz] at h
          simp only [Prod.mk.injEq] at h
          obtain ⟨hx, ht, _⟩ := h
          have e : c.toNat % 128 = c.toNat := by omega
          rw [e] at hx
          refine ⟨c.toNat, hx.symm, ?_, fun hi => by omega⟩
          rw [var7_lt (by omega), ← ht]
          simp [byteOf]
theorem rv_lt : ∀ (f i n : Nat) (l : List UInt8) (err : Int), n < 128 ^ i → (rv f i n l err).1 < 128 ^ (i + f) := by
  intro f
  induction f with
  | zero => intro i n l err h; simp [rv]; exact Nat.pow_pos (by omega)
  | succ f ih =>
    intro i n l err h
    have hm : num (taken 1 l err) % 128 < 128 := Nat.mod_lt _ (by omega)
    have hb : n + num (taken 1 l err) % 128 * 128 ^ i < 128 ^ (i + 1) := by
      rw [Nat.pow_succ]
      have := Nat.mul_le_mul_right (128 ^ i) (show num (taken 1 l err) % 128 ≤ 127 from by omega)
      omega
    have hp : 128 ^ (i + 1) ≤ 128 ^ (i + (f + 1)) := Nat.pow_le_pow_right (by omega) (by omega)
    have hpos : 0 < 128 ^ (i + (f + 1)) := Nat.pow_pos (by omega)
    rw [rv]
    split
    · exact hpos
    · split
      · have := ih (i + 1) _ (leftL 1 l err) (leftE 1 l err) hb
        rwa [show i + 1 + f = i + (f + 1) from by omega] at this
      · split
        · exact hpos
        · exact Nat.lt_of_lt_of_le hb hp

theorem var7_len (n : Nat) (h : n ≤ 268435455) : (if (n : Int) < 128 then 1 else if (n : Int) < 16384 then 2 else if (n : Int) < 2097152 then 3 else if (n : Int) < 268435456 then 4 else 0) = ((var7 n).length : Int) := by
  rcases (show n < 128 ∨ (128 ≤ n ∧ n < 16384) ∨ (16384 ≤ n ∧ n < 2097152) ∨ (2097152 ≤ n ∧ n < 268435456) from by omega) with h | ⟨h, h'⟩ | ⟨h, h'⟩ | ⟨h, h'⟩
  · rw [if_pos (by omega), var7_lt h]; rfl
  · rw [if_neg (by omega), if_pos (by omega), var7_ge (by omega), var7_lt (by omega)]; rfl
  · rw [if_neg (by omega), if_neg (by omega), if_pos (by omega), var7_ge (by omega), var7_ge (by omega), var7_lt (by omega)]; rfl
  · rw [if_neg (by omega), if_neg (by omega), if_neg (by omega), if_pos (by omega), var7_ge (by omega), var7_ge (by omega), var7_ge (by omega), var7_lt (by omega)]; rfl
/-- The document's Var of n and the program's, and its size: of n within the bounds n's digits, else none. -/
def varL (n : Nat) : List UInt8 := if n ≤ 268435455 then var7 n else []
theorem varL_ref (n : Nat) (h : n ≤ 268435455) (w : World) : Calls Try.prog 30 #[.slice none 0 0, .int .u32 n] w (Lays w (varL n)) := by
  have := reflvar_any none 0 [] n w h (Row.nil _ _) (fun _ => rfl) (by simp)
  rw [varL, if_pos h]
  exact this
theorem varL_var (n : Nat) (h : n < 4294967296) (w : World) : Calls Try.prog 29 #[.slice none 0 0, .int .u32 n] w (Lays w (varL n)) := by
  unfold varL
  by_cases h1 : n ≤ 268435455
  · rw [if_pos h1]; exact var_any none 0 [] n w h1 (Row.nil _ _) (fun _ => ⟨rfl, rfl⟩) (by simp)
  · rw [if_neg h1]; exact var_great none 0 [] n w (by omega) h (Row.nil _ _) (fun _ => ⟨rfl, rfl⟩) (by simp)
theorem varL_size (n : Nat) (h : n < 4294967296) (w : World) : Calls Try.prog 33 #[.int .u32 n] w fun e w' => e = .returned (.int .i64 (varL n).length) ∧ w = w' := by
  have h2 := varsize_any n w (by omega) (by omega)
  unfold varL
  by_cases h1 : n ≤ 268435455
  · rw [var7_len n h1] at h2; rw [if_pos h1]; exact h2
  · rw [if_neg h1]
    have e : (if (n : Int) < 128 then 1 else if (n : Int) < 16384 then 2 else if (n : Int) < 2097152 then 3 else if (n : Int) < 268435456 then 4 else 0) = (0 : Int) := by
      repeat rw [if_neg (by omega)]
    rw [e] at h2; exact h2

theorem varL_var0 (n : Nat) (h0 : ¬ n ≤ 268435455) (h : n < 4294967296) (w : World) : Calls Try.prog 29 #[.slice none 0 0, .int .u32 n] w fun e w' => ∃ g cap, e = .returned (.slice (some ⟨g, 0, none⟩) 0 cap) ∧ Kept No w w' := by
  have h2 := varL_var n h w
  rw [varL, if_neg h0] at h2
  exact h2.mono fun e w' ⟨g, cap, h1, _, _, h4⟩ => ⟨g, cap, h1, h4⟩
theorem varL_size0 (n : Nat) (h0 : ¬ n ≤ 268435455) (h : n < 4294967296) (w : World) : Calls Try.prog 33 #[.int .u32 n] w fun e w' => e = .returned (.int .i64 0) ∧ w = w' := by
  have h2 := varL_size n h w
  rw [varL, if_neg h0] at h2
  exact h2
theorem keepS {w5 w w' : World} {rb o : Nat} {v : Value} (h2 : Kept No w w') (hlt : rb < w5.heap.size) (h : w.cell? ⟨rb, o, none⟩ = some v ∧ Kept No w5 w) : w'.cell? ⟨rb, o, none⟩ = some v ∧ Kept No w5 w' :=
  ⟨(h2.cell (p := ⟨rb, o, none⟩) (Nat.lt_of_lt_of_le hlt h.2.size) (fun f => f)).trans h.1, h.2.trans h2⟩
theorem Rdr.held {w5 w : World} {r : Nat} {l : List UInt8} {err : Int} {A : Prop} (h : Rdr w5 r l err) (hS : A ∧ Kept No w5 w) : Rdr w r l err := h.keptNo hS.2

theorem read_at (a : Option Addr) (c m : Nat) (l : List UInt8) (hm : Hid (l.length = m)) (w : World) (hr : Row w a (B8 l)) (hn : a = none → c = 0) (hl : l.length ≤ 140737000000000) :
    Calls Try.prog 8 #[.slice a m c] w fun e w' => ∃ r, e = .returned (.pointer (some ⟨r, 0, none⟩)) ∧ w.heap.size ≤ r ∧ Rdr w' r l 0 ∧ Kept No w w' := by
  have h := hm.out
  subst h
  exact read_any a c l w hr (row_none hr hn) hl
theorem str_at {w : World} {a : Option Addr} {l : List UInt8} {m : Nat} (hm : Hid (l.length = m)) (h : Row w a (B8 l)) (cap : Nat) (hn : a = none → cap = 0) :
    (convert 22 9 (.slice a m cap)).run Try.prog w = .ok (.string ⟨l.toArray⟩) w := by
  have h1 := hm.out
  subst h1
  exact row_str _ _ _ Try.underlying22 Try.underlying5 Try.underlying9 h cap hn

set_option maxRecDepth 100000 in
set_option maxHeartbeats 1000000 in
theorem wireVars_walk (a0 : Option Addr) (len0 cap0 : Nat) (z0 : List Int) (a1 : Int) (w : World) (w0 : IsRow .u8 w a0 len0 cap0 z0) (w1 : (Lit.int .u32 a1).wf = true) :
    Calls Try.prog 5 #[.slice a0 len0 cap0, .int .u32 a1] w fun e w' => e = .returned (.bool true) ∧ Below w.heap.size w w' := by
  obtain ⟨hrow, hlen, hlc, hcm, hn, hwf⟩ := w0.row
  rw [ints_bytes hwf] at hrow
  have hb := bounds_u32 w1
  obtain ⟨n, rfl⟩ := Int.eq_ofNat_of_zero_le hb.1
  have hlen' : ((z0.take len0).map byteOf).length = len0 := by simpa using hlen
  generalize (z0.take len0).map byteOf = l at *
  subst hlen'
  clear w0 w1 hwf hlen
  unfold maxLen at hcm
  have hrow2 := hrow.take 12
  rw [← B8_take] at hrow2
  have HN := Lib.hid hn
  clear hn
  go_enter Try.func5, Try.ntmps5
  go_wp2_with fail
  all_goals
    first
      | (have hm : Hid ((l.take 12).length = 12) := by (show (l.take 12).length = 12; simp; omega)
         have htl : (l.take 12).length ≤ 12 := by simp; omega
         have hmc : (12 : Int) ≤ cap0 := by omega
         have hmm : (t : Nat) → t ≤ (l.take 12).length → (t : Int) ≤ 12 := by intro t; omega
         generalize l.take 12 = t at *)
      | (have hm : Hid (l.length = l.length) := by (show l.length = l.length; rfl)
         have htl : l.length ≤ 12 := by omega
         clear hrow2
         have hrow2 := hrow
         generalize l = t at *)
    clear hrow
    go_wp2_with (first
      | (go_at_call 8; refine (read_at a0 cap0 _ t hm _ hrow2 HN.out (by omega)).mono ?_; rintro e w1 ⟨r, rfl, hr, hrd, hk1⟩; have hcv := str_at hm (hrow2.keptNo hk1) cap0 HN.out))
    have hrf : RefR (w1.alloc (.cells #[.string ⟨t.toArray⟩, .int .i64 0, .int .i64 0] 28)) w1.heap.size ⟨t.toArray⟩ t 0 := ⟨0, Blk.new _ _ _, by omega, by simp [ByteArray.size]; omega, by simp, by simp⟩
    have hrd2 := hrd.keptNo ((Kept.refl No w1).alloc (.cells #[.string ⟨t.toArray⟩, .int .i64 0, .int .i64 0] 28))
    have hk2 := hk1.alloc (.cells #[.string ⟨t.toArray⟩, .int .i64 0, .int .i64 0] 28)
    have hne : r ≠ w1.heap.size := by have := hrd.lt; omega
    have hrb : w.heap.size ≤ w1.heap.size := hk1.size
    generalize w1.alloc (.cells #[.string ⟨t.toArray⟩, .int .i64 0, .int .i64 0] 28) = w2 at *
    generalize w1.heap.size = rb at *
    clear hcv
    have hX := rv_lt 4 0 0 t 0 (by decide)
    have hV := rv_var7 4 0 0 t
    have hv1 := rvar_any w2 r t 0 hrd2
    have hv2 := fun wx (h : RefR wx rb ⟨t.toArray⟩ t 0) => refvar_ok wx rb ⟨t.toArray⟩ t h
    obtain ⟨X, L, E, hR⟩ : ∃ X L E, rv 4 0 0 t 0 = (X, L, E) := ⟨_, _, _, rfl⟩
    rw [hR] at hX hv1 hv2 hV
    unfold RvIs at hv1
    unfold RrvIs at hv2
    simp only at hv1 hv2 hX
    have HV1 := Lib.hid hv1
    have HV2 := Lib.hid hv2
    have HV := Lib.hid hV
    clear hv1 hv2 hV hR
    go_wp2_with (first
      | (go_at_call 14; refine HV1.out.mono ?_; rintro e w3 ⟨rfl, ha3⟩; have hrf3 := hrf.kept ha3.kept hne.symm)
      | (go_at_call 15; refine (HV2.out _ hrf3).mono ?_; rintro e w4 ⟨rfl, ha4⟩))
    all_goals
      have hrd4 : Rdr w4 r L E := ha3.rdr.kept ha4.kept hne (fun b hb hlt => by obtain rfl : b = rb := hb; exact hrf3.noByte)
      have hrf4 := ha4.rdr
      have hsz2 : w.heap.size ≤ w2.heap.size := hk2.size
      have hk4 : Kept (From w.heap.size) w w4 := ((hk2.any).then ha3.kept (fun i _ h => by have : i = r := h; show w.heap.size ≤ i; omega)).then ha4.kept (fun i _ h => by have : i = rb := h; show w.heap.size ≤ i; omega)
      clear HV1 HV2 ha3 ha4 hrf3 hrf hrd2 hk2
      first
        | (have hnm : ¬ n ≤ 268435455 := by omega
           have e0 : varL n = [] := if_neg hnm
           have e1 : (0 : Int) = ((varL n).length : Int) := by rw [e0]; rfl
           have e2 : Value.int .i64 0 = Value.int .i64 ((varL n).length : Int) := by rw [e0]; rfl
           obtain ⟨w5, hw5⟩ : ∃ w5, w5 = w4 := ⟨_, rfl⟩
           have hk5 : Kept No w4 w5 := by rw [hw5]; exact Kept.refl _ _
           rw [← hw5]
           have E0 := Lib.hid e0
           clear hw5 e0 e1 e2)
        | (have hnm : n ≤ 268435455 := by omega
           go_wp2_with (first | (go_at_call 30; refine (varL_ref n hnm _).mono ?_; rintro e w5 ⟨g5, c5, rfl, hg5, hown5, hk5⟩)))
    all_goals
      have hrd5 := hrd4.keptNo hk5
      have hrf5 := hrf4.kept hk5 (fun f => f)
      have hk5' := hk4.then hk5 (fun _ _ f => f.elim)
      obtain ⟨at5, q0, q1, q2⟩ := hrf5.cells
      have hlt5 := hrf5.lt
      clear hrd4 hrf4 hk4 hk5
    all_goals
      first
        | (have hnm' : n ≤ 268435455 := hnm
           go_region_held3 (fun w' => w'.cell? ⟨rb, 2, none⟩ = some (.int .i64 E) ∧ Kept No w5 w') (first | exact ⟨q2, (Kept.refl _ _).drew⟩ | (refine keepS (w := w5.drew) ?_ hlt5 ⟨q2, (Kept.refl _ _).drew⟩; assumption) | exact keepS (by assumption) hlt5 (by assumption))
             (first
               | (go_at_call 9; refine (told1_any _).mono ?_; rintro e w6 ⟨rfl, hk6⟩)
               | (go_at_call 24; refine (err_any _ r L E ?_).mono ?_; exact hrd5.keptNo (And.right (by assumption)); rintro e w6 ⟨rfl, rfl⟩)
               | (go_at_call 33; refine (varL_size n (by omega) _).mono ?_; rintro e w6 ⟨rfl, rfl⟩)
               | (go_at_call 29; refine (varL_var n (by omega) _).mono ?_; rintro e w6 ⟨g6, c6, rfl, hg6, hown6, hk6⟩)))
        | (go_region_held3 (fun w' => w'.cell? ⟨rb, 2, none⟩ = some (.int .i64 E) ∧ Kept No w5 w') (first | exact ⟨q2, (Kept.refl _ _).drew⟩ | (refine keepS (w := w5.drew) ?_ hlt5 ⟨q2, (Kept.refl _ _).drew⟩; assumption) | exact keepS (by assumption) hlt5 (by assumption))
             (first
               | (go_at_call 9; refine (told1_any _).mono ?_; rintro e w6 ⟨rfl, hk6⟩)
               | (go_at_call 24; refine (err_any _ r L E ?_).mono ?_; exact hrd5.keptNo (And.right (by assumption)); rintro e w6 ⟨rfl, rfl⟩)
               | (go_at_call 33; refine (varL_size0 n hnm (by omega) _).mono ?_; rintro e w6 ⟨rfl, rfl⟩)
               | (go_at_call 29; refine (varL_var0 n hnm (by omega) _).mono ?_; rintro e w6 ⟨g6, c6, rfl, hk6⟩)))
    all_goals
      obtain ⟨w7, hw7⟩ : ∃ w7, w7 = w6 := ⟨_, rfl⟩
      have hk7 : Kept No w5 w7 := by rw [hw7]; exact And.right (by assumption)
      rw [← hw7]
      clear hw7
      go_wp2_with (first
        | (go_at_call 29; refine (varL_var X (by omega) _).mono ?_; rintro e w8 ⟨g8, c8, rfl, hg8, hown8, hk8⟩))
    all_goals
      have hk78 := hk7.trans hk8
      have hrf8 := hrf5.kept hk78 (fun f => f)
      have hk8' := (hk5'.then hk7 (fun _ _ f => f.elim)).then hk8 (fun _ _ f => f.elim)
      have hbel := hk8'.below (Nat.le_refl _) (fun k hk h => by have : w.heap.size ≤ k := h; omega)
      have hrow8 := hrow2.kept hk8' (fun b off ha hne h => by
        rcases hrow2 with h0 | ⟨b', off', he, hlt, _⟩
        · exact hne h0
        · rw [ha] at he; injection he with he; injection he with e1 e2; subst e1; have : w.heap.size ≤ b := h; omega)
      have hP7 : varL X = var7 X := if_pos (by omega)
      clear hk78 hk7 hk8 hk8' hrf5 hk5' q0 q1 q2 hrow2
      by_cases hE : E = 0
      · have hV := HV.out X L (by rw [hE])
        have htP : t = varL X ++ L := by
          obtain ⟨y, hy, ht, _⟩ := hV
          have : y = X := by simpa using hy.symm
          rw [hP7, ht, this]
        generalize varL X = P at *
        have hPt : P = t.take P.length := by rw [htP]; simp
        have hPl : P.length ≤ t.length := by rw [htP]; simp
        obtain ⟨at8, hb8, ha1, ha2, ha3, _⟩ := hrf8
        have hat : at8 = P.length := by
          have h9 := ha3 hE
          have h10 : (⟨t.toArray⟩ : ByteArray).data.toList = t := by simp
          have h11 : (⟨t.toArray⟩ : ByteArray).size = t.length := by simp [ByteArray.size]
          rw [h10] at h9
          rw [h11] at ha1
          have h12 := congrArg List.length htP
          have h13 := congrArg List.length h9
          simp at h12 h13
          omega
        subst hat
        have r1 := hb8.cell 1
        have r2 := hb8.cell 2
        simp at r1 r2
        have hrow9 := hrow8.take P.length
        rw [← B8_take, ← hPt] at hrow9
        have cv1 : ∀ k, (convert 22 9 (.slice (some ⟨g8, 0, none⟩) P.length c8)).run Try.prog (w8.drewN k) = .ok (.string ⟨P.toArray⟩) (w8.drewN k) := fun k => str_at (l := P) (show P.length = P.length from rfl) ((Row.of_own hown8).keptNo ((Kept.refl No w8).drewN k)) c8 (by simp)
        have cv2 : ∀ k, (convert 22 9 (.slice a0 P.length cap0)).run Try.prog (w8.drewN k) = .ok (.string ⟨P.toArray⟩) (w8.drewN k) := fun k => str_at (l := P) (show P.length = P.length from rfl) (hrow9.keptNo ((Kept.refl No w8).drewN k)) cap0 HN.out
        have hE' : (E != 0) = false := by simp [hE]
        have hb1 : (P.length : Int) ≤ cap0 := by omega
        have hb2 : P.length ≤ cap0 := by omega
        have hb3 : (0 : Int) ≤ P.length := by omega
        have Hbel := Lib.hid hbel
        clear htP hPt hP7 hV hE ha3 hrow8 hrow9 hown8 hbel HV HN hb8
        go_quiet (fail)
        go_wp2
        go_ret
        exact ⟨rfl, ⟨Hbel.out.os, Hbel.out.tape, Hbel.out.output, Hbel.out.size, Hbel.out.block⟩⟩
      · have hE' : (E != 0) = true := by simpa using hE
        obtain ⟨at8, r0, r1, r2⟩ := hrf8.cells
        have Hbel := Lib.hid hbel
        clear hE hP7 hrow8 hown8 hbel HV HN hrf8
        go_quiet (fail)
        go_wp2
        go_ret
        exact ⟨rfl, ⟨Hbel.out.os, Hbel.out.tape, Hbel.out.output, Hbel.out.size, Hbel.out.block⟩⟩

end Go.Proofs.Ytfkddmdoepiikaa
