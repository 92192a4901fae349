/-
  The walk of WireGreat.
-/
import Derived.Test.YtfkddmdoepiikaaVarsWalk
namespace Go.Proofs.Ytfkddmdoepiikaa
open Go.RowKit
set_option linter.unusedVariables false
set_option linter.unusedSimpArgs false

theorem B8_set (l : List UInt8) (j : Nat) {n : Int} (h0 : 0 ≤ n) (h1 : n ≤ 255) : B8 (l.set j (byteOf n)) = (B8 l).set j (.int .u8 n) := by
  simp [B8, List.map_set, byteOf_val h0 h1]

/-- What is laid as a Bin is taken again. -/
theorem bin_taken (a b : UInt8) (t u : List UInt8) (h : num [a, b] = t.length) : binTaken (a :: b :: (t ++ u)) 0 = t ∧ binL (a :: b :: (t ++ u)) 0 = u ∧ binE (a :: b :: (t ++ u)) 0 = 0 := by
  have h2 : (2 : Int) ≤ ((a :: b :: (t ++ u)).length : Nat) := by simp; omega
  have e1 : taken 2 (a :: b :: (t ++ u)) 0 = [a, b] := by unfold taken; rw [if_pos ⟨rfl, by omega, h2⟩]; rfl
  have e2 : leftL 2 (a :: b :: (t ++ u)) 0 = t ++ u := by unfold leftL; rw [if_pos rfl, if_pos ⟨by omega, h2⟩]; rfl
  have e3 : leftE 2 (a :: b :: (t ++ u)) 0 = 0 := by unfold leftE; rw [if_pos rfl, if_pos ⟨by omega, h2⟩]
  have h3 : 0 ≤ ((t.length : Nat) : Int) ∧ ((t.length : Nat) : Int) ≤ ((t ++ u).length : Nat) := by simp; omega
  unfold binTaken binL binE
  rw [e1, e2, e3, h]
  refine ⟨?_, ?_, ?_⟩
  · unfold taken; rw [if_pos ⟨rfl, h3⟩]; simp
  · unfold leftL; rw [if_pos rfl, if_pos h3]; simp
  · unfold leftE; rw [if_pos rfl, if_pos h3]
theorem num_two (n : Nat) (h : n ≤ 65535) : num [byteOf ((n : Int) / 256), byteOf ((n : Int) % 256)] = n := by
  have h1 := byteOf_val (n := (n : Int) / 256) (by omega) (by omega)
  have h2 := byteOf_val (n := (n : Int) % 256) (by omega) (by omega)
  simp only [num, List.foldl_cons, List.foldl_nil]
  omega

set_option maxRecDepth 100000 in
set_option maxHeartbeats 1000000 in
theorem wireGreat_walk (a0 : Int) (a1 : Int) (w : World) (w0 : (Lit.int .i64 a0).wf = true) (w1 : (Lit.int .u8 a1).wf = true) :
    Calls Try.prog 6 #[.int .i64 a0, .int .u8 a1] w fun e w' => e = .returned (.bool true) ∧ Below w.heap.size w w' := by
  obtain ⟨i0, hi, hz0, hz1, hz2⟩ := info_parts info_u8
  have hb := bounds_u8 w1
  have hb0 := hb.1
  have hb1 := hb.2
  have hmod := law_mod a0 70000 (by omega) (by omega)
  clear w0 w1 hb
  have HM := Lib.hid hmod
  clear hmod
  go_enter Try.func6, Try.ntmps6
  go_wp2_with (at_make; obtain ⟨k, hk, hk7⟩ := HM.out; rw [hk]; refine wpList_make_full _ rfl _ _ _ rfl w.heap.size 5 i0 _ 1 Try.underlying22 hi hz0 hz1 .i64 .i64 _ _ k rfl rfl rfl rfl ?c1 ?c2 (Nat.le_refl _) ?_; rotate_right; intro w1 hown1 hg1; clear hk)
  case c1 => rw [hz2]; omega
  case c2 => unfold maxLen; omega
  have hk1 : Kept No w w1 := (Kept.refl No w).grown hg1 (by simp)
  have hl1 : (madeCells (Value.int .u8 0).cells (k * 1)).toList = B8 (List.replicate k 0) := by
    rw [Nat.mul_one]
    show (madeCells #[Value.int .u8 0] k).toList = _
    rw [toList_madeCells_one]; simp [B8]
  rw [hl1] at hown1
  clear hl1 hg1 HM
  go_loopw [7] (fun i wr => ∃ (j : Nat) (l : List UInt8), i = .int .i64 j ∧ j ≤ k + 96 ∧ l.length = k ∧ wr.ownsRow w.heap.size 5 1 (.slice (some ⟨w.heap.size, 0, none⟩) k k) k (B8 l) ∧ Kept No w wr) (fun i _ => k + 97 - (intOf i).toNat)
  case atStart => exact ⟨0, List.replicate k 0, rfl, by omega, by simp, hown1, hk1⟩
  case round =>
    obtain ⟨j, l, rfl, hj, hlen, hown, hkr⟩ := hrel
    have HL := Lib.hid hlen
    have hlk : l.length ≤ k := by omega
    clear hlen hown1 hk1
    by_cases hlt : j < k
    · have c1 := hown.cellAt j (by omega)
      have f1 := hown.frozenAt j
      have hlt2 : (j : Int) < k := by omega
      have hv : (B8 l)[j]? = some (.int .u8 (l[j]'(by rw [HL.out]; exact hlt)).toNat) := B8_get l j _
      rw [hv] at c1
      clear hv
      have hset := hown.stored j (.int .u8 a1)
      rw [← B8_set l j hb0 hb1] at hset
      have HS := Lib.hid hset.1
      clear hset
      go_wp2
      go_roundw
      case rel => exact ⟨j + 97, l.set j (byteOf a1), by go_num, by omega, by simpa using HL.out, HS.out, hkr.setCell (p := ⟨w.heap.size, j, none⟩) (.inl (Nat.le_refl _)) _⟩
      case measure => simp [intOf]; omega
    · have hrow : Row wr (some ⟨w.heap.size, 0, none⟩) (B8 l) := .of_own hown
      have hcv : ∀ o, (convert 22 9 (.slice (some ⟨w.heap.size, 0, none⟩) k k)).run Try.prog (wr.alloc o) = .ok (.string ⟨l.toArray⟩) (wr.alloc o) := fun o => str_at HL.out (hrow.keptNo ((Kept.refl No wr).alloc o)) k (by simp)
      have hSs : (⟨l.toArray⟩ : ByteArray).size = k := by show l.toArray.size = k; simpa using HL.out
      have hSl : (⟨l.toArray⟩ : ByteArray).data.toList = l := by simp
      have hr7 : Row (wr.alloc (.cells #[.int .u8 7] 5)) (some ⟨wr.heap.size, 0, none⟩) (B8 [7]) := .inr ⟨_, 0, rfl, by simp, fun j u hj => by
        have h9 := new_cells wr 5 (B8 [7]) _ rfl j u hj
        rwa [Addr.add_lit] at h9⟩
      have hrow2 : ∀ w2, Kept No wr w2 → Row w2 (some ⟨w.heap.size, 0, none⟩) (B8 l) := fun w2 h => hrow.keptNo h
      generalize hS : (⟨l.toArray⟩ : ByteArray) = S at *
      have HSs := Lib.hid hSs
      have HSl := Lib.hid hSl
      have HSS := Lib.hid hS
      clear hSs hSl hS hown
      by_cases hgt : (65535 : Int) < k
      · go_wp2_with (first
          | (go_at_call 31; refine (bin_long (some ⟨wr.heap.size, 0, none⟩) 1 [7] S _ (by rw [HSs.out]; omega) (by rw [HSs.out]; unfold maxLen; omega) hr7 (by simp) (by simp)).mono ?_; rintro e w2 ⟨g2, c2, rfl, hg2, hown2, hk2⟩)
          | (go_at_call 9; refine (told1_any _).mono ?_; rintro e w3 ⟨rfl, hk3⟩))
        go_ret
        exact ⟨rfl, (((hkr.alloc _).trans hk2).trans hk3).below (Nat.le_refl _) (fun _ _ f => f)⟩
      · have hle : (k : Int) ≤ 65535 := by omega
        have h9 : S.size ≤ 65535 := by rw [HSs.out]; omega
        have h10 : ([7] ++ byteOf (S.size / 256) :: byteOf (S.size % 256) :: S.data.toList).length ≤ 140737000000000 := by
          simp only [List.length_append, List.length_cons, List.length_nil, size_list, HSs.out]; omega
        have H9 := Lib.hid h9
        have H10 := Lib.hid h10
        clear hgt h9 h10
        go_wp2_with fail
        refine (bin_any (some ⟨wr.heap.size, 0, none⟩) 1 [7] S _ H9.out hr7 (by simp) (by simp)).mono ?_
        rintro e w2 ⟨g2, c2, rfl, hg2, hown2, hk2⟩
        generalize hM : [7] ++ byteOf (S.size / 256) :: byteOf (S.size % 256) :: S.data.toList = M at *
        have hMl : M.length = k + 3 := by rw [← hM]; simp only [List.length_append, List.length_cons, List.length_nil, size_list, HSs.out]; omega
        rw [hMl]
        have HM := Lib.hid hM
        have HMl := Lib.hid hMl
        clear hM hMl
        have hrM := Row.of_own hown2
        have hz3 := hk2.size
        have hrl2 := hrow2 _ (((Kept.refl No wr).alloc _).trans hk2)
        clear hrow2 hcv hr7 hown2
        have hd : decide ((65535 : Int) < k) = false := by simpa using hle
        clear hle hlt hlk hj
        go_wp2_with (go_at_call 8; refine (read_at (some ⟨g2, 0, none⟩) c2 _ M HMl _ hrM (by simp) H10.out).mono ?_; rintro e w3 ⟨r, rfl, hr, hrd, hk3⟩)
        have hrl3 := hrl2.keptNo hk3
        have hkA := ((hkr.alloc (.cells #[.int .u8 7] 5)).trans hk2).trans hk3
        have hrw : w.heap.size ≤ r := by have := hkr.size; have := hk2.size; simp at this; omega
        have hrlt := hrd.lt
        clear hrl2 hk3 hk2 hkr hrow hrM hr hz3
        have b1 : ∀ wx (h : Rdr wx r M 0), Calls Try.prog 10 #[.pointer (some ⟨r, 0, none⟩)] wx fun e w' => e = .returned (.int .u8 7) ∧ After wx w' r (M.drop 1) 0 := by
          intro wx h
          have h1 := rbyte_any wx r M 0 h
          have e1 : taken 1 M 0 = [7] := by rw [← HM.out]; exact (one_cons 7 _).1
          have e2 : leftL 1 M 0 = M.drop 1 := by rw [← HM.out]; exact (one_cons 7 _).2.1
          have e3 : leftE 1 M 0 = 0 := by rw [← HM.out]; exact (one_cons 7 _).2.2
          rw [e1, e2, e3] at h1
          exact h1
        have b2 : ∀ wx (h : Rdr wx r (M.drop 1) 0), Calls Try.prog 16 #[.pointer (some ⟨r, 0, none⟩)] wx fun e w' => e = .returned (.string S) ∧ After wx w' r [] 0 := by
          intro wx h
          have h1 := rbin_any wx r (M.drop 1) 0 h
          have e0 : M.drop 1 = byteOf (S.size / 256) :: byteOf (S.size % 256) :: S.data.toList := by rw [← HM.out]; rfl
          have e1 := bin_taken (byteOf (S.size / 256)) (byteOf (S.size % 256)) S.data.toList [] (by rw [num_two _ H9.out, size_list])
          rw [List.append_nil] at e1
          rw [e0, e1.1, e1.2.1, e1.2.2] at h1
          have e5 : (⟨S.data.toList.toArray⟩ : ByteArray) = S := by simp
          rw [e5] at h1
          exact h1
        have B1 := Lib.hid b1
        have B2 := Lib.hid b2
        clear b1 b2
        have hw3 : IntKind.i64.wrap ((k : Int) + 3) = (k : Int) + 3 := IntWalk.i64_in _ (by omega)
        clear hk7
        have hcvS : ∀ wx, Row wx (some ⟨w.heap.size, 0, none⟩) (B8 l) → (convert 22 9 (.slice (some ⟨w.heap.size, 0, none⟩) k k)).run Try.prog wx = .ok (.string S) wx := fun wx h => by
          have h1 := str_at HL.out h k (by simp)
          rwa [HSS.out] at h1
        go_region_held3 (fun wx => Row wx (some ⟨w.heap.size, 0, none⟩) (B8 l))
          (first
            | exact hrl3.keptNo ((Kept.refl No w3).drew)
            | exact Row.keptNo (hrl3.keptNo ((Kept.refl No w3).drew)) hk5
            | exact row_nobyte (by assumption) ha6.kept (fun b hb _ => by have e : b = r := hb; rw [e]; exact hrd5.noByte)
            | exact row_nobyte (by assumption) ha7.kept (fun b hb _ => by have e : b = r := hb; rw [e]; exact ha6.rdr.noByte))
          (first
            | (go_at_call 9; refine (told1_any _).mono ?_; rintro e w5 ⟨rfl, hk5⟩; have hrd5 := (hrd.keptNo ((Kept.refl No w3).drew)).keptNo hk5)
            | (go_at_call 10; refine (B1.out _ hrd5).mono ?_; rintro e w6 ⟨rfl, ha6⟩)
            | (go_at_call 16; refine (B2.out _ ha6.rdr).mono ?_; rintro e w7 ⟨rfl, ha7⟩))
        go_wp2
        go_ret
        have hz5 := hk5.size
        have hno : ∀ i, i < w.heap.size → One r i → No i := fun i hi h => by have : i = r := h; omega
        exact ⟨rfl, ((((hkA.drew).trans hk5).then ha6.kept hno).then ha7.kept hno).below (Nat.le_refl _) (fun _ _ f => f)⟩

end Go.Proofs.Ytfkddmdoepiikaa
