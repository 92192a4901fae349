/-
  The walk of TextLongs.
-/
import Derived.Test.YtfkddmdoepiikabDoorText3
namespace Go.Proofs.YtfkddmdoepiikabDoor
open Go.RowKit
set_option linter.unusedVariables false
set_option linter.unusedSimpArgs false

theorem info_u8t : (Tryd.prog.info? 5).map (fun i => (i.zero, i.size, i.bytes)) = some (some (.int .u8 0), 1, 1) := by kernel_rfl
theorem B8_set9 (l : List UInt8) (j : Nat) {n : Int} (h0 : 0 ≤ n) (h1 : n ≤ 255) : B8 (l.set j (byteOf n)) = (B8 l).set j (.int .u8 n) := by
  simp [B8, List.map_set, byteOf_val h0 h1]
theorem row_strT {P : Program} {w : World} (src dst e : TypeId) (hs : P.underlying src = some (.slice e)) (he : P.underlying e = some (.int .u8)) (hd : P.underlying dst = some .string)
    {a : Option Addr} {l : List UInt8} (h : Row w a (B8 l)) (cap : Nat) (hn : a = none → cap = 0) : (convert src dst (.slice a l.length cap)).run P w = .ok (.string ⟨l.toArray⟩) w := by
  cases a with
  | none =>
    obtain rfl := hn rfl
    rcases h with h | ⟨b, off, h, _⟩
    · obtain rfl : l = [] := by cases l <;> simp_all [B8]
      exact Lib.run_convert_nil_bytes w src dst e 0 hs he hd
    · cases h
  | some ad => exact run_convert_bytes_back w src dst e ad cap l hs he hd fun j hj => h.at_add ad rfl j _ (B8_get l j hj)
theorem ascii_text (l : List UInt8) (h : ∀ b ∈ l, 0 < b.toNat ∧ b.toNat < 128) : isText l = true := by
  unfold isText
  have h1 := Lib.validD_ascii l.length l (fun b hb => (h b (List.mem_of_mem_take hb)).2)
  rw [List.drop_length, Lib.validD_nil] at h1
  have h2 : l.contains 0 = false := by
    rw [← Bool.not_eq_true, List.contains_iff_mem]
    intro hm
    have := (h 0 hm).1
    simp at this
  rw [h1, h2]; rfl

set_option maxRecDepth 100000 in
set_option maxHeartbeats 4000000 in
theorem textLongs_walk (a0 : Int) (a1 : Int) (w : World) (w0 : (Lit.int .i64 a0).wf = true) (w1 : (Lit.int .u8 a1).wf = true) (hT : Tabs w) :
    Calls Tryd.prog 6 #[.int .i64 a0, .int .u8 a1] w fun e w' => e = .returned (.bool true) ∧ Below w.heap.size w w' := by
  obtain ⟨i0, hi, hz0, hz1, hz2⟩ := info_parts info_u8t
  have hb := bounds_u8 w1
  have hb0 := hb.1
  have hb1 := hb.2
  have hmod : ∃ k : Nat, wrap64 (65530 + wrap64 ((IntKind.u64.wrap a0).tmod 12)) = (k : Int) ∧ (65530 : Int) ≤ k ∧ (k : Int) ≤ 65541 := by
    obtain ⟨m, hm, hm12⟩ := law_mod a0 12 (by omega) (by omega)
    rw [hm]
    refine ⟨(65530 + (m : Int)).toNat, ?_, by omega, by omega⟩
    unfold wrap64; omega
  clear w0 w1 hb
  have HM := Lib.hid hmod
  clear hmod
  go_enter Tryd.func6, Tryd.ntmps6
  go_wp2_with (at_make; obtain ⟨k, hk, hk1, hk2⟩ := HM.out; rw [hk]; refine wpList_make_full _ rfl _ _ _ rfl w.heap.size 5 i0 _ 1 Tryd.underlying26 hi hz0 hz1 .i64 .i64 _ _ k rfl rfl rfl rfl ?c1 ?c2 (Nat.le_refl _) ?_; rotate_right; intro w1 hown1 hg1; clear hk)
  case c1 => rw [hz2]; omega
  case c2 => unfold maxLen; omega
  have hkk1 : Kept No w w1 := (Kept.refl No w).grown hg1 (by simp)
  have hl1 : (madeCells (Value.int .u8 0).cells (k * 1)).toList = B8 (List.replicate k 0) := by
    rw [Nat.mul_one]
    show (madeCells #[Value.int .u8 0] k).toList = _
    rw [toList_madeCells_one]; simp [B8]
  rw [hl1] at hown1
  clear hl1 hg1 HM
  have HK1 := Lib.hid hk1
  clear hk1
  go_loopw [7] (fun i wr => ∃ (j : Nat) (l : List UInt8), i = .int .i64 j ∧ j ≤ k ∧ l.length = k ∧ (∀ b ∈ l.take j, b = 97) ∧ wr.ownsRow w.heap.size 5 1 (.slice (some ⟨w.heap.size, 0, none⟩) k k) k (B8 l) ∧ Kept No w wr) (fun i _ => k - (intOf i).toNat)
  case atStart => exact ⟨0, List.replicate k 0, rfl, by omega, by simp, by simp, hown1, hkk1⟩
  case round =>
    obtain ⟨j, l, rfl, hj, hlen, hall, hown, hkr⟩ := hrel
    have HL := Lib.hid hlen
    have HA := Lib.hid hall
    clear hlen hown1 hkk1 hall
    by_cases hlt : j < k
    · have c1 := hown.cellAt j (by omega)
      have f1 := hown.frozenAt j
      have hlt2 : (j : Int) < k := by omega
      have hv : (B8 l)[j]? = some (.int .u8 (l[j]'(by rw [HL.out]; exact hlt)).toNat) := B8_get l j _
      rw [hv] at c1
      clear hv
      have hset := hown.stored j (.int .u8 97)
      have hs9 : (B8 l).set j (.int .u8 97) = B8 (l.set j 97) := by simp [B8, List.map_set]
      rw [hs9] at hset
      have HS := Lib.hid hset.1
      have hall9 : ∀ b ∈ (l.set j 97).take (j + 1), b = 97 := by
        intro b hb
        rw [List.take_succ_eq_append_getElem (by rw [List.length_set, HL.out]; exact hlt)] at hb
        rcases List.mem_append.1 hb with hb | hb
        · rw [List.take_set_of_le (by omega)] at hb; exact HA.out b hb
        · simpa using hb
      have HA9 := Lib.hid hall9
      clear hset hs9 hall9
      go_wp2
      go_roundw
      case rel => exact ⟨j + 1, l.set j 97, by go_num, by omega, by simpa using HL.out, HA9.out, HS.out, hkr.setCell (p := ⟨w.heap.size, j, none⟩) (.inl (Nat.le_refl _)) _⟩
      case measure => simp [intOf]; omega
    · have hjk : j = k := by omega
      have HJ := Lib.hid hjk
      have hge : (k : Int) ≤ j := by omega
      have hk0 : 0 < k := by have := HK1.out; omega
      have hmid : k / 2 < k := by omega
      have f1 := hown.frozenAt (k / 2)
      have hv : (B8 l)[k / 2]? = some (.int .u8 (l[k / 2]'(by rw [HL.out]; exact hmid)).toNat) := B8_get l (k / 2) _
      obtain ⟨v9, c1⟩ : ∃ v, wr.cell? ⟨w.heap.size, k / 2, none⟩ = some v := ⟨_, (hown.cellAt (k / 2) (by omega)).trans hv⟩
      have hmidI : (k : Int) / 2 < k := by omega
      have hmid0 : (0 : Int) ≤ (k : Int) / 2 := by omega
      have hmidN : ((k : Int) / 2).toNat = k / 2 := by omega
      have hset := (hown.stored (k / 2) (.int .u8 (1 + a1 % 127))).1
      rw [← B8_set9 l (k / 2) (by omega) (by omega)] at hset
      have hrow : Row (wr.setCell ⟨w.heap.size, k / 2, none⟩ (.int .u8 (1 + a1 % 127))) (some ⟨w.heap.size, 0, none⟩) (B8 (l.set (k / 2) (byteOf (1 + a1 % 127)))) := .of_own hset
      have hlen2 : (l.set (k / 2) (byteOf (1 + a1 % 127))).length = k := by simpa using HL.out
      have htext : isText (l.set (k / 2) (byteOf (1 + a1 % 127))) = true := ascii_text _ fun b hb => by
        rcases List.mem_or_eq_of_mem_set hb with hb | rfl
        · have := HA.out b (by rw [HJ.out, List.take_of_length_le (by rw [HL.out]; omega)]; exact hb)
          rw [this]; decide
        · have h9 := byteOf_val (n := 1 + a1 % 127) (by omega) (by omega)
          omega
      generalize l.set (k / 2) (byteOf (1 + a1 % 127)) = L at *
      have HLen := Lib.hid hlen2
      have HT := Lib.hid htext
      have HR := Lib.hid hrow
      clear hjk hv hown hset hlen2 htext hrow hmid hlt hj
      have hk9 : Kept No w (wr.setCell ⟨w.heap.size, k / 2, none⟩ (.int .u8 (1 + a1 % 127))) := hkr.setCell (p := ⟨w.heap.size, k / 2, none⟩) (.inl (Nat.le_refl _)) _
      have hok : okText ⟨L.toArray⟩ = decide ((k : Int) ≤ 65535) := by
        have e1 : (⟨L.toArray⟩ : ByteArray).size = k := by show L.toArray.size = k; simpa using HLen.out
        have e2 : (⟨L.toArray⟩ : ByteArray).data.toList = L := by simp
        unfold okText
        rw [e1, e2, HT.out, Bool.and_true]
        simp only [decide_eq_decide]; omega
      have hSz : (⟨L.toArray⟩ : ByteArray).size ≤ 9223372036854775807 := by
        have e1 : (⟨L.toArray⟩ : ByteArray).size = k := by show L.toArray.size = k; simpa using HLen.out
        rw [e1]; omega
      have hcvA : ∀ wx, Kept No (wr.setCell ⟨w.heap.size, k / 2, none⟩ (.int .u8 (1 + a1 % 127))) wx → (convert 26 9 (.slice (some ⟨w.heap.size, 0, none⟩) k k)).run Tryd.prog wx = .ok (.string ⟨L.toArray⟩) wx := fun wx h => by
        have h1 := row_strT (P := Tryd.prog) 26 9 5 Tryd.underlying26 Tryd.underlying5 Tryd.underlying9 (HR.out.keptNo h) k (by simp)
        rwa [HLen.out] at h1
      generalize (⟨L.toArray⟩ : ByteArray) = S at *
      have HCV := Lib.hid hcvA
      have HOK := Lib.hid hok
      have HSZ := Lib.hid hSz
      clear hcvA hok hSz HL HA HJ
      by_cases hle : (k : Int) ≤ 65535
      · have hok : okText S = true := by rw [HOK.out]; exact decide_eq_true hle
        have hd : decide ((k : Int) ≤ 65535) = true := decide_eq_true hle
        go_wp2_with (first
          | (go_at_call 7; refine (told2_any _ (hT.kept hk9)).mono ?_; rintro e w2 ⟨rfl, hk2⟩; have hcv := HCV.out _ hk2)
          | (go_at_call 8; refine (right_any S _ HSZ.out ((hT.kept hk9).kept hk2)).mono ?_; rintro e w3 ⟨rfl, hk3⟩))
        go_ret
        exact ⟨rfl, ((hk9.trans hk2).trans hk3).below (Nat.le_refl _) (fun _ _ f => f)⟩
      · have hok : okText S = false := by rw [HOK.out]; exact decide_eq_false hle
        have hd : decide ((k : Int) ≤ 65535) = false := decide_eq_false hle
        have hgt : (65535 : Int) < k := by omega
        clear hle
        go_wp2_with (first
          | (go_at_call 7; refine (told2_any _ (hT.kept hk9)).mono ?_; rintro e w2 ⟨rfl, hk2⟩; have hcv := HCV.out _ hk2)
          | (go_at_call 8; refine (right_any S _ HSZ.out ((hT.kept hk9).kept hk2)).mono ?_; rintro e w3 ⟨rfl, hk3⟩))
        go_ret
        exact ⟨rfl, ((hk9.trans hk2).trans hk3).below (Nat.le_refl _) (fun _ _ f => f)⟩

end Go.Proofs.YtfkddmdoepiikabDoor
