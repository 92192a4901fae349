/-
  Contracts of the document's One, of bytes.Clone.
-/
import Derived.Test.YtfhcmmmgnkinoaaDoorPxA
namespace Go.Proofs.YtfhcmmmgnkinoaaDoor
open Go.RowKit
set_option linter.unusedVariables false
set_option linter.unusedSimpArgs false
set_option maxRecDepth 100000

theorem addByte_be (l : List UInt8) (n : Nat) : l ++ be (0 + 1) n = addByte l n := by
  simp [be, addByte]
theorem addTwo_be (l : List UInt8) (n : Nat) : l ++ be (1 + 1) n = addTwo l n := by
  simp only [be, addTwo, Nat.pow_zero, Nat.div_one, Nat.pow_one]
  rw [show (((n / 256 : Nat) : Int) % 256) = (n : Int) % 65536 / 256 by omega, show ((n : Int) % 256) = (n : Int) % 65536 % 256 by omega]
theorem addFour_be (l : List UInt8) (n : Nat) (h : n < 4294967296) : l ++ be (3 + 1) n = addFour l n := by
  rw [be_four n (by omega)]; rfl
theorem num1_any (a : Option Addr) (c : Nat) (l : List UInt8) (n : Nat) (w : World) (h1 : n < 4294967296) (hr : Row w a (B8 l)) (hn : a = none → c = 0) (hl : l.length ≤ 100000) :
    Calls Tryd.prog 88 #[.slice a l.length c, .int .u64 n, .int .i64 1] w (Lays w (addByte l n)) := by
  have := refnum_any a c l n 1 0 (by omega) w (by omega) (by omega) hr hn (by omega)
  rw [addByte_be] at this; exact this
theorem num2_any (a : Option Addr) (c : Nat) (l : List UInt8) (n : Nat) (w : World) (h1 : n < 4294967296) (hr : Row w a (B8 l)) (hn : a = none → c = 0) (hl : l.length ≤ 100000) :
    Calls Tryd.prog 88 #[.slice a l.length c, .int .u64 n, .int .i64 2] w (Lays w (addTwo l n)) := by
  have := refnum_any a c l n 2 1 (by omega) w (by omega) (by omega) hr hn (by omega)
  rw [addTwo_be] at this; exact this
theorem num4_any (a : Option Addr) (c : Nat) (l : List UInt8) (n : Nat) (w : World) (h1 : n < 4294967296) (hr : Row w a (B8 l)) (hn : a = none → c = 0) (hl : l.length ≤ 100000) :
    Calls Tryd.prog 88 #[.slice a l.length c, .int .u64 n, .int .i64 4] w (Lays w (addFour l n)) := by
  have := refnum_any a c l n 4 3 (by omega) w (by omega) (by omega) hr hn (by omega)
  rw [addFour_be l n h1] at this; exact this
/-! one -/
set_option maxHeartbeats 4000000 in
theorem one_any (id n : Nat) (a b : ByteArray) (w : World) (hf : Fits id n a b) :
    Calls Tryd.prog 49 #[.agg #[.int .u8 id, .int .u32 n, .string a, .string b]] w (Lays w (layP id n a b)) := by
  obtain ⟨h8, hn, ha, hb, ht1⟩ := hf
  have cT := rtype_any id
  have ht := typL_le id
  unfold layP
  generalize typL id = t at *
  have HT := Lib.hid cT
  clear cT
  have hB0 := (Blk.new w 58 #[.int .u8 id, .int .u32 n, .string a, .string b]).alloc (.cells #[.int .u8 id] 5)
  have hR0 : Row ((w.alloc (.cells #[.int .u8 id, .int .u32 n, .string a, .string b] 58)).alloc (.cells #[.int .u8 id] 5)) (some ⟨w.heap.size + 1, 0, none⟩) (B8 [byteOf id]) := by
    rw [B8_byteOf (by omega) (by omega)]
    have h := (Blk.new (w.alloc (.cells #[.int .u8 id, .int .u32 n, .string a, .string b] 58)) 5 #[.int .u8 id])
    rw [show (w.alloc (.cells #[.int .u8 id, .int .u32 n, .string a, .string b] 58)).heap.size = w.heap.size + 1 by simp] at h
    refine .inr ⟨_, _, rfl, h.lt, fun j u hu => ?_⟩
    rw [h.cell]
    simpa using hu
  have hk0 := ((Kept.refl No w).alloc (.cells #[.int .u8 id, .int .u32 n, .string a, .string b] 58)).alloc (.cells #[.int .u8 id] 5)
  have hL1 : ([byteOf id] : List UInt8).length ≤ 10 := by simp
  have HR0 := Lib.hid hR0
  have hL9 : ([byteOf id] : List UInt8).length = 1 := rfl
  have HL9 := Lib.hid hL9
  clear hR0 hL9
  generalize ([byteOf (id : Int)] : List UInt8) = l at *
  have HB0 := Lib.hid hB0
  have q0 := hB0.cell 0
  have q1 := hB0.cell 1
  have q2 := hB0.cell 2
  have q3 := hB0.cell 3
  simp at q0 q1 q2 q3
  clear hB0
  have hone : ∀ (g : Addr) (c : Nat), (Value.slice (some g) 1 c) = .slice (some g) l.length c := fun g c => by rw [HL9.out]
  have HONE := Lib.hid hone
  clear hone
  rcases (show t = 1 ∨ t = 2 ∨ t = 3 ∨ t = 4 ∨ t = 5 ∨ t = 6 ∨ t = 7 from by omega) with rfl | rfl | rfl | rfl | rfl | rfl | rfl
  · have hc9 := num1_any (some ⟨w.heap.size + 1, 0, none⟩) 1 l n _ hn HR0.out (by simp) (by omega)
    rw [HL9.out] at hc9
    have HC := Lib.hid hc9
    clear hc9
    go_enter Tryd.func49, Tryd.ntmps49
    go_wp2_with (first
      | (go_at_call 86; refine (HT.out _).mono ?_; rintro e w2 ⟨rfl, rfl⟩)
      | (go_at_call 88; refine HC.out.mono ?_; rintro e w3 ⟨g2, c2, rfl, hg2, hown2, hk2⟩))
    go_ret
    exact Lays.from (w := (w.alloc (.cells #[.int .u8 id, .int .u32 n, .string a, .string b] 58)).alloc (.cells #[.int .u8 id] 5)) ⟨g2, c2, rfl, hg2, hown2, hk2⟩ hk0
  · have hc9 := num2_any (some ⟨w.heap.size + 1, 0, none⟩) 1 l n _ hn HR0.out (by simp) (by omega)
    rw [HL9.out] at hc9
    have HC := Lib.hid hc9
    clear hc9
    go_enter Tryd.func49, Tryd.ntmps49
    go_wp2_with (first
      | (go_at_call 86; refine (HT.out _).mono ?_; rintro e w2 ⟨rfl, rfl⟩)
      | (go_at_call 88; refine HC.out.mono ?_; rintro e w3 ⟨g2, c2, rfl, hg2, hown2, hk2⟩))
    go_ret
    exact Lays.from (w := (w.alloc (.cells #[.int .u8 id, .int .u32 n, .string a, .string b] 58)).alloc (.cells #[.int .u8 id] 5)) ⟨g2, c2, rfl, hg2, hown2, hk2⟩ hk0
  · have hc9 := num4_any (some ⟨w.heap.size + 1, 0, none⟩) 1 l n _ hn HR0.out (by simp) (by omega)
    rw [HL9.out] at hc9
    have HC := Lib.hid hc9
    clear hc9
    go_enter Tryd.func49, Tryd.ntmps49
    go_wp2_with (first
      | (go_at_call 86; refine (HT.out _).mono ?_; rintro e w2 ⟨rfl, rfl⟩)
      | (go_at_call 88; refine HC.out.mono ?_; rintro e w3 ⟨g2, c2, rfl, hg2, hown2, hk2⟩))
    go_ret
    exact Lays.from (w := (w.alloc (.cells #[.int .u8 id, .int .u32 n, .string a, .string b] 58)).alloc (.cells #[.int .u8 id] 5)) ⟨g2, c2, rfl, hg2, hown2, hk2⟩ hk0
  · have hc9 := refvX (some ⟨w.heap.size + 1, 0, none⟩) 1 l n _ (by omega) HR0.out (by simp) (by omega)
    rw [HL9.out] at hc9
    have HC := Lib.hid hc9
    clear hc9
    go_enter Tryd.func49, Tryd.ntmps49
    go_wp2_with (first
      | (go_at_call 86; refine (HT.out _).mono ?_; rintro e w2 ⟨rfl, rfl⟩)
      | (go_at_call 50; refine HC.out.mono ?_; rintro e w3 ⟨g2, c2, rfl, hg2, hown2, hk2⟩))
    go_ret
    exact Lays.from (w := (w.alloc (.cells #[.int .u8 id, .int .u32 n, .string a, .string b] 58)).alloc (.cells #[.int .u8 id] 5)) ⟨g2, c2, rfl, hg2, hown2, hk2⟩ hk0
  · have hc9 := refbinX (some ⟨w.heap.size + 1, 0, none⟩) 1 l a _ ha HR0.out (by simp) (by omega)
    rw [HL9.out] at hc9
    have HC := Lib.hid hc9
    clear hc9
    go_enter Tryd.func49, Tryd.ntmps49
    go_wp2_with (first
      | (go_at_call 86; refine (HT.out _).mono ?_; rintro e w2 ⟨rfl, rfl⟩)
      | (go_at_call 89; refine HC.out.mono ?_; rintro e w3 ⟨g2, c2, rfl, hg2, hown2, hk2⟩))
    go_ret
    exact Lays.from (w := (w.alloc (.cells #[.int .u8 id, .int .u32 n, .string a, .string b] 58)).alloc (.cells #[.int .u8 id] 5)) ⟨g2, c2, rfl, hg2, hown2, hk2⟩ hk0
  · have hc9 := refbinX (some ⟨w.heap.size + 1, 0, none⟩) 1 l a _ ha HR0.out (by simp) (by omega)
    rw [HL9.out] at hc9
    have HC := Lib.hid hc9
    clear hc9
    go_enter Tryd.func49, Tryd.ntmps49
    go_wp2_with (first
      | (go_at_call 86; refine (HT.out _).mono ?_; rintro e w2 ⟨rfl, rfl⟩)
      | (go_at_call 89; refine HC.out.mono ?_; rintro e w3 ⟨g2, c2, rfl, hg2, hown2, hk2⟩))
    go_ret
    exact Lays.from (w := (w.alloc (.cells #[.int .u8 id, .int .u32 n, .string a, .string b] 58)).alloc (.cells #[.int .u8 id] 5)) ⟨g2, c2, rfl, hg2, hown2, hk2⟩ hk0
  · go_enter Tryd.func49, Tryd.ntmps49
    have hc9 := refbinX (some ⟨w.heap.size + 1, 0, none⟩) 1 l a _ ha (HR0.out.keptNo ((Kept.refl No _).drew)) (by simp) (by omega)
    rw [HL9.out] at hc9
    have HC := Lib.hid hc9
    clear hc9
    go_wp2_with (first
      | (go_at_call 86; refine (HT.out _).mono ?_; rintro e w2 ⟨rfl, rfl⟩))
    have hQ := HB0.out
    have hA3 : (addBin l a).length ≤ 100000 := by rw [addBin_len]; omega
    have HA3 := Lib.hid hA3
    clear hA3 q0 q1 q2 q3
    refine wp_region_held_drew (S := (fun wx => wx.cell? ⟨w.heap.size, 2, none⟩ = some (.string a) ∧ wx.cell? ⟨w.heap.size, 3, none⟩ = some (.string b))) (by kernel_rfl) ?_ (fun hHeld => ?_)
    · exact ⟨hQ.drew.cell 2, hQ.drew.cell 3⟩
    refine wpAnyH_take (i := 0) (v := ?vvz0) rfl (by kernel_rfl) (by kernel_rfl) (by kernel_rfl) (fun _ _ _ h => h) (Or.inl ⟨by rfl, ?hhz0⟩) (by assumption) ?rrz0
    case hhz0 => (intro wz9 hSw; (try dsimp only at hSw); go_simp; try with_reducible rfl)
    go_simp
    refine wpAnyH_take (i := 1) (v := ?vvz1) rfl (by kernel_rfl) (by kernel_rfl) (by kernel_rfl) (fun _ _ _ h => h) (Or.inl ⟨by rfl, ?hhz1⟩) (by assumption) ?rrz1
    case hhz1 => (intro wz9 hSw; (try dsimp only at hSw); go_simp; try with_reducible rfl)
    go_simp
    refine wpAnyH_take (i := 2) (v := ?vvz2) rfl (by kernel_rfl) (by kernel_rfl) (by kernel_rfl) (fun _ _ _ h => h) (Or.inl ⟨by rfl, ?hhz2⟩) (by assumption) ?rrz2
    case hhz2 => (intro wz9 hSw; (try dsimp only at hSw); go_simp; try with_reducible rfl)
    go_simp
    refine wpAnyH_take (i := 4) (v := ?vvz4) rfl (by kernel_rfl) (by kernel_rfl) (by kernel_rfl) (fun _ _ _ h => h) (Or.inl ⟨by rfl, ?hhz4⟩) (by assumption) ?rrz4
    case hhz4 => (intro wz9 hSw; (try dsimp only at hSw); go_simp; try with_reducible rfl)
    go_simp
    refine wpAnyH_take (i := 5) (v := ?vvz5) rfl (by kernel_rfl) (by kernel_rfl) (by kernel_rfl) (fun _ _ _ h => h) (Or.inl ⟨by rfl, ?hhz5⟩) (by assumption) ?rrz5
    case hhz5 => (intro wz9 hSw; (try dsimp only at hSw); go_simp; try with_reducible rfl)
    go_simp
    refine wpAnyH_ready (rs := [3]) (by kernel_rfl) (by simp) ?_
    refine AllReadyH.cons rfl (fun K9 hK9 => ?_) AllReadyH.nil
    go_simp
    go_wp2_with (go_at_call 89; refine HC.out.mono ?_; rintro e w3 ⟨g3, c3, rfl, hg3, hown3, hk3⟩; have hQ3 := hQ.drew.kept hk3 (fun f => f))
    refine hK9.out _ _ ?_ (fun hHeld => ?_)
    · exact ⟨hQ3.cell 2, hQ3.cell 3⟩
    clear hK9 K9
    refine wpAnyH_ready (rs := [6]) (by kernel_rfl) (by simp) ?_
    refine AllReadyH.cons rfl (fun K9 hK9 => ?_) AllReadyH.nil
    go_simp
    go_wp2_with (go_at_call 89; refine (refbinX _ _ _ b _ hb (Row.of_own hown3) (by simp) HA3.out).mono ?_; rintro e w4 ⟨g2, c2, rfl, hg2, hown2, hk2⟩; have hQ4 := hQ3.kept hk2 (fun f => f))
    refine hK9.out _ _ ?_ (fun hHeld => ?_)
    · exact ⟨hQ4.cell 2, hQ4.cell 3⟩
    clear hK9 K9
    refine wpAnyH_take (i := 7) (v := ?vvz7) rfl (by kernel_rfl) (by kernel_rfl) (by kernel_rfl) (fun _ _ _ h => h) (Or.inl ⟨by rfl, ?hhz7⟩) (by assumption) ?rrz7
    case hhz7 => (intro wz9 hSw; (try dsimp only at hSw); go_simp; try with_reducible rfl)
    go_simp
    refine wpAnyH_done (by kernel_rfl) ?_ _
    go_wp2
    go_ret
    exact Lays.from (w := w3) ⟨g2, c2, rfl, hg2, hown2, hk2⟩ (hk0.drew.trans hk3)

end Go.Proofs.YtfhcmmmgnkinoaaDoor
