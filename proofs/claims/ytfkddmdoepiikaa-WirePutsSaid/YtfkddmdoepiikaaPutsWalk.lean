/-
  The walk of WirePuts.
-/
import Derived.Test.YtfkddmdoepiikaaPutsM
import Derived.Deep.RegionHeld3
import Derived.Deep.DeepCutAuto
import Derived.Deep.CutBlock
namespace Go.Proofs.Ytfkddmdoepiikaa
open Go.RowKit
set_option linter.unusedVariables false
set_option linter.unusedSimpArgs false

/-- A slice of texts that came in, as the frame of a law tells it. -/
def IsStrs (w : World) (a : Option Addr) (len cap : Nat) (zs : List ByteArray) : Prop :=
  (a = none ∧ len = 0 ∧ cap = 0 ∧ zs = []) ∨
  ∃ x, a = some x ∧ len ≤ cap ∧ cap ≤ maxLen ∧ zs.length = cap ∧ (∀ i, i < zs.length → w.cell? (x.add i) = some (.string (zs.getD i ByteArray.empty))) ∧ ∀ s ∈ zs, s.size ≤ maxLen
theorem addr_lit {w : World} {x : Addr} {v : Value} (h : w.cell? (x.add 0) = some v) : ∃ b off, x = ⟨b, off, none⟩ ∧ b < w.heap.size := by
  obtain ⟨b, off, spot⟩ := x
  have hspot : spot = none := by simpa [Addr.add] using World.cell?_spot h
  subst hspot
  refine ⟨b, off, rfl, ?_⟩
  rcases Nat.lt_or_ge b w.heap.size with hlt | hge
  · exact hlt
  · have e0 : ((⟨b, off, none⟩ : Addr).add 0) = ⟨b, off, none⟩ := rfl
    rw [e0] at h
    simp [World.cell?, Array.getElem?_eq_none hge] at h
theorem IsStrs.open {w : World} {a : Option Addr} {len cap : Nat} {zs : List ByteArray} (h : IsStrs w a len cap zs) :
    ∃ ss : List ByteArray, ss.length = len ∧ len ≤ cap ∧ cap ≤ maxLen ∧ (∀ s ∈ ss, s.size ≤ maxLen) ∧ (len = 0 ∨ ∃ b off, a = some ⟨b, off, none⟩ ∧ b < w.heap.size ∧ ∀ i, i < len → w.cell? ⟨b, off + i, none⟩ = some (.string (ss.getD i ByteArray.empty))) := by
  rcases h with ⟨rfl, rfl, rfl, rfl⟩ | ⟨x, rfl, h1, h2, h3, h4, h5⟩
  · exact ⟨[], rfl, Nat.le_refl _, by simp [maxLen], by simp, .inl rfl⟩
  · refine ⟨zs.take len, by rw [List.length_take]; omega, h1, h2, fun s hs => h5 s (List.mem_of_mem_take hs), ?_⟩
    by_cases h0 : len = 0
    · exact .inl h0
    · obtain ⟨b, off, rfl, hb⟩ := addr_lit (h4 0 (by omega))
      refine .inr ⟨b, off, rfl, hb, fun i hi => ?_⟩
      have := h4 i (by omega)
      rw [Addr.add_lit] at this
      rw [this, List.getD_eq_getElem?_getD, List.getD_eq_getElem?_getD, List.getElem?_take_of_lt hi]
theorem IsRow.open32 {w : World} {a : Option Addr} {len cap : Nat} {zs : List Int} (h : IsRow .u32 w a len cap zs) :
    ∃ ns : List Nat, ns.length = len ∧ len ≤ cap ∧ cap ≤ maxLen ∧ (∀ n ∈ ns, n ≤ 4294967295) ∧ (len = 0 ∨ ∃ b off, a = some ⟨b, off, none⟩ ∧ b < w.heap.size ∧ ∀ i, i < len → w.cell? ⟨b, off + i, none⟩ = some (.int .u32 (ns.getD i 0 : Nat))) := by
  rcases h with ⟨rfl, rfl, rfl, rfl⟩ | ⟨x, rfl, h1, h2, h3, h4, h5⟩
  · exact ⟨[], rfl, Nat.le_refl _, by simp [maxLen], by simp, .inl rfl⟩
  · refine ⟨(zs.take len).map Int.toNat, by simp; omega, h1, h2, fun n hn => ?_, ?_⟩
    · obtain ⟨z, hz, rfl⟩ := List.mem_map.1 hn
      have := bounds_u32 (h5 z (List.mem_of_mem_take hz))
      omega
    · by_cases h0 : len = 0
      · exact .inl h0
      · obtain ⟨b, off, rfl, hb⟩ := addr_lit (h4 0 (by omega))
        refine .inr ⟨b, off, rfl, hb, fun i hi => ?_⟩
        have := h4 i (by omega)
        rw [Addr.add_lit] at this
        have hz : i < zs.length := by omega
        have hm : zs[i] ∈ zs := List.getElem_mem hz
        have h9 := bounds_u32 (h5 _ hm)
        rw [this, List.getD_eq_getElem?_getD, List.getD_eq_getElem?_getD, List.getElem?_map, List.getElem?_take_of_lt hi, List.getElem?_eq_getElem hz]
        simp only [Option.map_some, Option.getD_some]
        rw [Int.toNat_of_nonneg h9.1]

/-- The slice's value, its cells in a row. -/
def Sl (wr : World) (v : Value) (l : List UInt8) : Prop := ∃ a c, v = .slice a l.length c ∧ Row wr a (B8 l) ∧ (a = none → l.length = 0 ∧ c = 0)
theorem Sl.nil (w : World) : Sl w (.slice none 0 0) [] := ⟨none, 0, rfl, Row.nil _ _, fun _ => ⟨rfl, rfl⟩⟩
theorem take_get (ns : List Nat) (k : Nat) (h : k < ns.length) : ns.take (k + 1) = ns.take k ++ [ns.getD k 0] := by
  rw [List.take_succ_eq_append_getElem h, List.getD_eq_getElem?_getD, List.getElem?_eq_getElem h]; rfl
theorem take_getS (ss : List ByteArray) (k : Nat) (h : k < ss.length) : ss.take (k + 1) = ss.take k ++ [ss.getD k ByteArray.empty] := by
  rw [List.take_succ_eq_append_getElem h, List.getD_eq_getElem?_getD, List.getElem?_eq_getElem h]; rfl
theorem getD_mem (ns : List Nat) (k : Nat) (h : k < ns.length) : ns.getD k 0 ∈ ns := by
  rw [List.getD_eq_getElem?_getD, List.getElem?_eq_getElem h]; exact List.getElem_mem h
theorem getD_memS (ss : List ByteArray) (k : Nat) (h : k < ss.length) : ss.getD k ByteArray.empty ∈ ss := by
  rw [List.getD_eq_getElem?_getD, List.getElem?_eq_getElem h]; exact List.getElem_mem h
theorem len_byte (l : List UInt8) (x : Nat) : (addByte l x).length = l.length + 1 := by simp [addByte]
theorem len_two (l : List UInt8) (x : Nat) : (addTwo l x).length = l.length + 2 := by simp [addTwo]
theorem len_four (l : List UInt8) (x : Nat) : (addFour l x).length = l.length + 4 := by simp [addFour]
theorem len_var (l : List UInt8) (x : Nat) : (addVar l x).length ≤ l.length + 4 := by have := varL_le x; simp [addVar]; omega
/-! What the Reader has left behind each step over one number's bytes. -/
def aft3 (x : Nat) (R : List UInt8) : List UInt8 := varL x ++ R
def aft2 (x : Nat) (R : List UInt8) : List UInt8 := [byteOf ((x : Int) / 16777216), byteOf ((x : Int) / 65536 % 256), byteOf ((x : Int) / 256 % 256), byteOf ((x : Int) % 256)] ++ aft3 x R
def aft1 (x : Nat) (R : List UInt8) : List UInt8 := [byteOf ((x : Int) % 65536 / 256), byteOf ((x : Int) % 65536 % 256)] ++ aft2 x R
theorem rbyteX (w : World) (r x : Nat) (R : List UInt8) (h : Rdr w r (encOne x ++ R) 0) :
    Calls Try.prog 10 #[.pointer (some ⟨r, 0, none⟩)] w fun e w' => e = .returned (.int .u8 ((x : Int) % 256)) ∧ After w w' r (aft1 x R) 0 := by
  have h1 := rbyte_any w r _ 0 h
  obtain ⟨e1, e2, e3⟩ := step_byte x R
  rw [e1, e2, e3] at h1
  exact h1
theorem rtwoX (w : World) (r x : Nat) (R : List UInt8) (h : Rdr w r (aft1 x R) 0) :
    Calls Try.prog 12 #[.pointer (some ⟨r, 0, none⟩)] w fun e w' => e = .returned (.int .u16 ((x : Int) % 65536)) ∧ After w w' r (aft2 x R) 0 := by
  unfold aft1 at h
  have h1 := rtwo_any w r _ 0 h
  obtain ⟨e1, e2, e3⟩ := step_two x (aft2 x R)
  rw [e1, e2, e3] at h1
  exact h1
theorem rfourX (w : World) (r x : Nat) (R : List UInt8) (hx : x ≤ 4294967295) (h : Rdr w r (aft2 x R) 0) :
    Calls Try.prog 13 #[.pointer (some ⟨r, 0, none⟩)] w fun e w' => e = .returned (.int .u32 x) ∧ After w w' r (aft3 x R) 0 := by
  unfold aft2 at h
  have h1 := rfour_any w r _ 0 h
  obtain ⟨e1, e2, e3⟩ := step_four x (aft3 x R) hx
  rw [e1, e2, e3] at h1
  exact h1
theorem rvarX (w : World) (r x : Nat) (R : List UInt8) (hx : x ≤ 268435455) (h : Rdr w r (aft3 x R) 0) :
    Calls Try.prog 14 #[.pointer (some ⟨r, 0, none⟩)] w fun e w' => e = .returned (.int .u32 x) ∧ After w w' r R 0 := by
  unfold aft3 at h
  have h1 := rvar_any w r _ 0 h
  rw [rv_varL x R hx] at h1
  exact h1
theorem rbinX (w : World) (r : Nat) (s : ByteArray) (R : List UInt8) (hs : s.size ≤ 65535) (h : Rdr w r (encBin s ++ R) 0) :
    Calls Try.prog 16 #[.pointer (some ⟨r, 0, none⟩)] w fun e w' => e = .returned (.string s) ∧ After w w' r R 0 := by
  have h1 := rbin_any w r _ 0 h
  obtain ⟨e1, e2, e3⟩ := step_bin s R hs
  rw [e1, e2, e3] at h1
  exact h1
theorem keepR {wb w w' : World} {rb o r : Nat} {v : Value} {l : List UInt8} {err : Int} (h2 : After w w' r l err) (hr : wb.heap.size ≤ r) (hlt : rb < wb.heap.size) (h : w.cell? ⟨rb, o, none⟩ = some v ∧ Kept No wb w) : w'.cell? ⟨rb, o, none⟩ = some v ∧ Kept No wb w' :=
  ⟨(h2.kept.cell (p := ⟨rb, o, none⟩) (Nat.lt_of_lt_of_le hlt h.2.size) (fun e => by have e' : rb = r := e; omega)).trans h.1, h.2.then h2.kept (fun i hi e => by show False; have e' : i = r := e; omega)⟩
theorem drop_get (ns : List Nat) (k : Nat) (h : k < ns.length) (h2 : k < 20) : (ns.take 20).drop k = ns.getD k 0 :: (ns.take 20).drop (k + 1) := by
  rw [List.drop_eq_getElem_cons (by rw [List.length_take]; omega), List.getD_eq_getElem?_getD, List.getElem?_eq_getElem h, List.getElem_take]; rfl
theorem drop_getS (ss : List ByteArray) (k : Nat) (h : k < ss.length) (h2 : k < 10) : (ss.take 10).drop k = ss.getD k ByteArray.empty :: (ss.take 10).drop (k + 1) := by
  rw [List.drop_eq_getElem_cons (by rw [List.length_take]; omega), List.getD_eq_getElem?_getD, List.getElem?_eq_getElem h, List.getElem_take]; rfl

set_option maxRecDepth 100000 in
set_option maxHeartbeats 4000000 in
theorem wirePuts_walk (a0 : Option Addr) (len0 cap0 : Nat) (z0 : List Int) (a1 : Option Addr) (len1 cap1 : Nat) (z1 : List ByteArray) (w : World) (w0 : IsRow .u32 w a0 len0 cap0 z0) (w1 : IsStrs w a1 len1 cap1 z1) :
    Calls Try.prog 4 #[.slice a0 len0 cap0, .slice a1 len1 cap1] w fun e w' => e = .returned (.bool true) ∧ Below w.heap.size w w' := by
  obtain ⟨ns, hns, hlc0, hcm0, hnb, hcn⟩ := w0.open32
  obtain ⟨ss, hss, hlc1, hcm1, hsb, hcs⟩ := w1.open
  clear w0 w1
  unfold maxLen at hcm0 hcm1
  have HN := Lib.hid hns
  have HS := Lib.hid hss
  have HNB := Lib.hid hnb
  have HSB := Lib.hid hsb
  have HCN := Lib.hid hcn
  have HCS := Lib.hid hcs
  clear hns hss hnb hsb hcn hcs
  go_enter Try.func4, Try.ntmps4
  go_upto_block 0 with fail
  go_cut [5, 6] (fun b v wx => ∃ l, Hid (l = encN (ns.take 20)) ∧ l.length ≤ 220 ∧ Sl wx b l ∧ Sl wx v l ∧ Kept No w wx)
  case first =>
    go_wp2_with fail
    go_loopw [5, 6, 7] (fun b v i wr => ∃ (k : Nat) (l : List UInt8), i = .int .i64 k ∧ k ≤ len0 ∧ k ≤ 20 ∧ Hid (l = encN (ns.take k)) ∧ l.length ≤ 11 * k ∧ Sl wr b l ∧ Sl wr v l ∧ Kept No w wr) (fun _ _ i _ => 20 - (intOf i).toNat)
    case atStart => exact ⟨0, [], rfl, by omega, by omega, Lib.hid rfl, by simp, Sl.nil _, Sl.nil _, Kept.refl No w⟩
    case round =>
      obtain ⟨k, l, rfl, hk0, hk20, HL, hll, ⟨a, c, rfl, hr, hn⟩, ⟨a', c', rfl, hr', hn'⟩, hK⟩ := hrel
      by_cases hlt : k < len0 ∧ k < 20
      · obtain ⟨hl1, hl2⟩ := hlt
        have hl1I : (k : Int) < len0 := by omega
        have hl2I : (k : Int) < 20 := by omega
        obtain ⟨b0, off0, rfl, hb0, hc0⟩ : ∃ b off, a0 = some ⟨b, off, none⟩ ∧ b < w.heap.size ∧ ∀ i, i < len0 → w.cell? ⟨b, off + i, none⟩ = some (.int .u32 (ns.getD i 0 : Nat)) := by
          rcases HCN.out with h | h
          · omega
          · exact h
        have hcx := (hK.cell (p := ⟨b0, off0 + k, none⟩) hb0 (fun f => f)).trans (hc0 k hl1)
        have hx := HNB.out _ (getD_mem ns k (by rw [HN.out]; exact hl1))
        have HE := Lib.hid (take_get ns k (by rw [HN.out]; exact hl1))
        generalize ns.getD k 0 = x at *
        have hxI : (x : Int) ≤ 4294967295 := by omega
        have hw8 : IntKind.u8.wrap (x : Int) = (x : Int) % 256 := by rw [IntKind.wrap_u8]
        have hw16 : IntKind.u16.wrap (x : Int) = (x : Int) % 65536 := by rw [IntKind.wrap_u16]
        clear hc0 HCN
        have hH0 : wr.drew.cell? ⟨b0, off0 + k, none⟩ = some (.int .u32 x) ∧ Kept No w wr.drew := ⟨hcx, hK.drew⟩
        go_wp2_with fail
        go_region_held3 (fun wx => wx.cell? ⟨b0, off0 + k, none⟩ = some (.int .u32 x) ∧ Kept No w wx) (first | exact ⟨hcx, hK.drew⟩ | exact keepS hk1 hb0 (by assumption) | exact keepS hk2 hb0 (by assumption) | exact keepS hk3 hb0 (by assumption) | assumption)
          (first
            | (go_at_call 27; go_must (refine (byteX a c l x _ (hr.keptNo ((Kept.refl No wr).drew)) hn (by omega)).mono ?_); rintro e w1 ⟨g1, c1, rfl, hg1, hown1, hk1⟩; have hr1 := Row.of_own hown1)
            | (go_at_call 26; go_must (refine (twoX (some ⟨g1, 0, none⟩) c1 (addByte l x) x _ hr1 (by simp) (by rw [len_byte]; omega)).mono ?_); rintro e w2 ⟨g2, c2, rfl, hg2, hown2, hk2⟩; have hr2 := Row.of_own hown2)
            | (go_at_call 25; go_must (refine (fourX (some ⟨g2, 0, none⟩) c2 (addTwo (addByte l x) x) x _ hx hr2 (by simp) (by rw [len_two, len_byte]; omega)).mono ?_); rintro e w3 ⟨g3, c3, rfl, hg3, hown3, hk3⟩; have hr3 := Row.of_own hown3))
        have hH3 := keepS hk3 hb0 (keepS hk2 hb0 (keepS hk1 hb0 hH0))
        have hr4 : Row w3 a' (B8 l) := (((hr'.keptNo ((Kept.refl No wr).drew)).keptNo hk1).keptNo hk2).keptNo hk3
        have hlen3 : (addFour (addTwo (addByte l x) x) x).length ≤ 11 * k + 7 := by rw [len_four, len_two, len_byte]; omega
        have hadd := add_one l x
        clear hown1 hown2 hown3 hk1 hk2 hk3 hr1 hr2 hH0 hcx hr hr' hK hn
        have HADD := Lib.hid hadd
        clear hadd
        obtain ⟨hcx, hK⟩ := hH3
        have hH0 : w3.drew.cell? ⟨b0, off0 + k, none⟩ = some (.int .u32 x) ∧ Kept No w w3.drew := ⟨hcx, hK.drew⟩
        have hu8 : IntKind.u64.wrap ((x : Int) % 256) = (x : Int) % 256 := by rw [IntKind.wrap_u64]; omega
        have hu16 : IntKind.u64.wrap ((x : Int) % 65536) = (x : Int) % 65536 := by rw [IntKind.wrap_u64]; omega
        have hu32 : IntKind.u64.wrap (x : Int) = (x : Int) := by rw [IntKind.wrap_u64]; omega
        go_wp2_with fail
        go_region_held3 (fun wx => wx.cell? ⟨b0, off0 + k, none⟩ = some (.int .u32 x) ∧ Kept No w wx) (first | exact hH0 | exact keepS hk4 hb0 (by assumption) | exact keepS hk5 hb0 (by assumption) | exact keepS hk6 hb0 (by assumption) | assumption)
          (first
            | (go_at_call 28; ((with_reducible refine (ref1X a' c' l x _ (hr4.keptNo ((Kept.refl No w3).drew)) hn' (by omega)).mono ?_); rintro e w4 ⟨g4, c4, rfl, hg4, hown4, hk4⟩; have hr5 := Row.of_own hown4))
            | (go_at_call 28; ((with_reducible refine (ref2X (some ⟨g4, 0, none⟩) c4 (addByte l x) x _ hr5 (by simp) (by rw [len_byte]; omega)).mono ?_); rintro e w5 ⟨g5, c5, rfl, hg5, hown5, hk5⟩; have hr6 := Row.of_own hown5))
            | (go_at_call 28; ((with_reducible refine (ref4X (some ⟨g5, 0, none⟩) c5 (addTwo (addByte l x) x) x _ hx hr6 (by simp) (by rw [len_two, len_byte]; omega)).mono ?_); rintro e w6 ⟨g6, c6, rfl, hg6, hown6, hk6⟩; have hr7 := Row.of_own hown6)))
        have hH6 := keepS hk6 hb0 (keepS hk5 hb0 (keepS hk4 hb0 hH0))
        have hr8 : Row w6 (some ⟨g3, 0, none⟩) (B8 (addFour (addTwo (addByte l x) x) x)) := (((hr3.keptNo ((Kept.refl No w3).drew)).keptNo hk4).keptNo hk5).keptNo hk6
        clear hown4 hown5 hown6 hk4 hk5 hk6 hr4 hr5 hr6 hH0 hcx hr3 hK hn' hu8 hu16 hu32 hw8 hw16
        obtain ⟨hcx, hK⟩ := hH6
        have hH0 : w6.drew.cell? ⟨b0, off0 + k, none⟩ = some (.int .u32 x) ∧ Kept No w w6.drew := ⟨hcx, hK.drew⟩
        go_wp2_with fail
        generalize hL3 : addFour (addTwo (addByte l x) x) x = L3 at *
        have HL3 := Lib.hid hL3
        clear hL3
        go_region_held3 (fun wx => wx.cell? ⟨b0, off0 + k, none⟩ = some (.int .u32 x) ∧ Kept No w wx) (first | exact hH0 | exact keepS hk7 hb0 (by assumption) | exact keepS hk8 hb0 (by assumption) | assumption)
          (first
            | (go_at_call 29; go_must (refine (varX (some ⟨g3, 0, none⟩) c3 L3 x _ hx (hr8.keptNo ((Kept.refl No w6).drew)) (by simp) (by omega)).mono ?_); rintro e w7 ⟨g7, c7, rfl, hg7, hown7, hk7⟩; have hr9 := Row.of_own hown7)
            | (go_at_call 30; go_must (refine (refvX (some ⟨g6, 0, none⟩) c6 L3 x _ hx ((hr7.keptNo ((Kept.refl No w6).drew)).keptNo hk7) (by simp) (by omega)).mono ?_); rintro e w8 ⟨g8, c8, rfl, hg8, hown8, hk8⟩; have hr10 := Row.of_own hown8))
        have hH8 := keepS hk8 hb0 (keepS hk7 hb0 hH0)
        have hr11 := hr9.keptNo hk8
        have hlen8 := len_var L3 x
        have hfin : addVar L3 x = encN (ns.take (k + 1)) := by rw [HADD.out, HE.out, encN_snoc, HL.out]
        generalize addVar L3 x = L8 at *
        have HFIN := Lib.hid hfin
        clear hfin hown7 hown8 hk7 hk8 hr9 hr8 hr7 hH0 hcx hK HADD HL3
        obtain ⟨_, hK⟩ := hH8
        go_wp2
        go_roundw
        case rel => exact ⟨k + 1, L8, by go_num, by omega, by omega, HFIN, by omega, ⟨_, _, rfl, hr11, by simp⟩, ⟨_, _, rfl, hr10, by simp⟩, hK⟩
        case measure => simp [intOf]; omega
      · have HF : Hid (l = encN (ns.take 20)) := Lib.hid (by
          rw [HL.out]
          rcases (show k = 20 ∨ k = len0 from by omega) with h | h
          · rw [h]
          · rw [List.take_of_length_le (by rw [HN.out]; omega), List.take_of_length_le (by rw [HN.out]; omega)])
        have hll' : l.length ≤ 220 := by omega
        by_cases hl1 : k < len0
        · have hl1I : (k : Int) < len0 := by omega
          have hge : (20 : Int) ≤ k := by omega
          clear hlt
          go_wp2_with fail
          go_meet
          exact ⟨l, HF, hll', ⟨_, _, rfl, hr, hn⟩, ⟨_, _, rfl, hr', hn'⟩, hK⟩
        · have hge : (len0 : Int) ≤ k := by omega
          clear hlt
          go_wp2_with fail
          go_meet
          exact ⟨l, HF, hll', ⟨_, _, rfl, hr, hn⟩, ⟨_, _, rfl, hr', hn'⟩, hK⟩
  case rest =>
  obtain ⟨l, HL, hll, ⟨a, c, rfl, hr, hn⟩, ⟨a', c', rfl, hr', hn'⟩, hK⟩ := hcut
  go_upto_block 2 with fail
  go_cut [5, 6] (fun b v wx => ∃ l, Hid (l = encN (ns.take 20) ++ encS (ss.take 10)) ∧ l.length ≤ 5000 ∧ Hid (∀ s ∈ ss.take 10, s.size ≤ 300) ∧ Sl wx b l ∧ Sl wx v l ∧ Kept No w wx)
  case first =>
    go_wp2_with fail
    go_loopw [5, 6, 8] (fun b v i wr => ∃ (k : Nat) (l : List UInt8), i = .int .i64 k ∧ k ≤ len1 ∧ k ≤ 10 ∧ Hid (l = encN (ns.take 20) ++ encS (ss.take k)) ∧ l.length ≤ 220 + 302 * k ∧ Hid (∀ s ∈ ss.take k, s.size ≤ 300) ∧ Sl wr b l ∧ Sl wr v l ∧ Kept No w wr) (fun _ _ i _ => 10 - (intOf i).toNat)
    case atStart => exact ⟨0, l, rfl, by omega, by omega, Lib.hid (by rw [HL.out]; simp [encS]), by omega, Lib.hid (by simp), ⟨_, _, rfl, hr, hn⟩, ⟨_, _, rfl, hr', hn'⟩, hK⟩
    case round =>
      clear hr hr' hn hn' hK HL hll
      obtain ⟨k, l, rfl, hk0, hk10, HL, hll, HZ, ⟨a, c, rfl, hr, hn⟩, ⟨a', c', rfl, hr', hn'⟩, hK⟩ := hrel
      by_cases hlt : k < len1 ∧ k < 10
      · obtain ⟨hl1, hl2⟩ := hlt
        have hl1I : (k : Int) < len1 := by omega
        have hl2I : (k : Int) < 10 := by omega
        obtain ⟨b1, off1, rfl, hb1, hc1⟩ : ∃ b off, a1 = some ⟨b, off, none⟩ ∧ b < w.heap.size ∧ ∀ i, i < len1 → w.cell? ⟨b, off + i, none⟩ = some (.string (ss.getD i ByteArray.empty)) := by
          rcases HCS.out with h | h
          · omega
          · exact h
        have hcx := (hK.cell (p := ⟨b1, off1 + k, none⟩) hb1 (fun f => f)).trans (hc1 k hl1)
        have hx := HSB.out _ (getD_memS ss k (by rw [HS.out]; exact hl1))
        have HE := Lib.hid (take_getS ss k (by rw [HS.out]; exact hl1))
        generalize ss.getD k ByteArray.empty = x at *
        unfold maxLen at hx
        clear hc1 HCS
        by_cases h3 : 300 < x.size
        · have h3I : (300 : Int) < x.size := by omega
          clear h3
          go_wp2_with (go_at_call 9; refine (told1_any _).mono ?_; rintro e w5 ⟨rfl, hk5⟩)
          go_ret
          exact ⟨rfl, (hK.trans hk5).below (Nat.le_refl _) (fun _ _ f => f)⟩
        · have h3I : (x.size : Int) ≤ 300 := by omega
          have h3N : x.size ≤ 300 := by omega
          clear h3
          have hH0 : wr.drew.cell? ⟨b1, off1 + k, none⟩ = some (.string x) ∧ Kept No w wr.drew := ⟨hcx, hK.drew⟩
          go_wp2_with fail
          go_region_held3 (fun wx => wx.cell? ⟨b1, off1 + k, none⟩ = some (.string x) ∧ Kept No w wx) (first | exact hH0 | exact keepS hk7 hb1 (by assumption) | exact keepS hk8 hb1 (by assumption) | assumption)
            (first
              | (go_at_call 31; go_must (refine (binX a c l x _ (by omega) (hr.keptNo ((Kept.refl No wr).drew)) hn (by omega)).mono ?_); rintro e w7 ⟨g7, c7, rfl, hg7, hown7, hk7⟩; have hr9 := Row.of_own hown7)
              | (go_at_call 32; go_must (refine (refbinX a' c' l x _ (by omega) ((hr'.keptNo ((Kept.refl No wr).drew)).keptNo hk7) hn' (by omega)).mono ?_); rintro e w8 ⟨g8, c8, rfl, hg8, hown8, hk8⟩; have hr10 := Row.of_own hown8))
          have hH8 := keepS hk8 hb1 (keepS hk7 hb1 hH0)
          have hr11 := hr9.keptNo hk8
          have hlen8 : (addBin l x).length = l.length + x.size + 2 := by unfold addBin; simp only [List.length_append, List.length_cons, size_list]; omega
          have hfin : addBin l x = encN (ns.take 20) ++ encS (ss.take (k + 1)) := by rw [HE.out, encS_snoc, ← List.append_assoc, ← HL.out]; rfl
          have hz9 : ∀ s ∈ ss.take (k + 1), s.size ≤ 300 := by
            rw [HE.out]; intro s hs
            rcases List.mem_append.1 hs with h | h
            · exact HZ.out s h
            · simp at h; rw [h]; exact h3N
          generalize addBin l x = L8 at *
          have HFIN := Lib.hid hfin
          have HZ9 := Lib.hid hz9
          clear hfin hz9 hown7 hown8 hk7 hk8 hr9 hH0 hcx hK
          obtain ⟨_, hK⟩ := hH8
          go_wp2
          go_roundw
          case rel => exact ⟨k + 1, L8, by go_num, by omega, by omega, HFIN, by omega, HZ9, ⟨_, _, rfl, hr11, by simp⟩, ⟨_, _, rfl, hr10, by simp⟩, hK⟩
          case measure => simp [intOf]; omega
      · have ht : ss.take k = ss.take 10 := by
          rcases (show k = 10 ∨ k = len1 from by omega) with h | h
          · rw [h]
          · rw [List.take_of_length_le (by rw [HS.out]; omega), List.take_of_length_le (by rw [HS.out]; omega)]
        have HF : Hid (l = encN (ns.take 20) ++ encS (ss.take 10)) := Lib.hid (by rw [HL.out, ht])
        have HZ9 : Hid (∀ s ∈ ss.take 10, s.size ≤ 300) := Lib.hid (by rw [← ht]; exact HZ.out)
        have hll' : l.length ≤ 5000 := by omega
        clear ht
        by_cases hl1 : k < len1
        · have hl1I : (k : Int) < len1 := by omega
          have hge : (10 : Int) ≤ k := by omega
          clear hlt
          go_wp2_with fail
          go_meet
          exact ⟨l, HF, hll', HZ9, ⟨_, _, rfl, hr, hn⟩, ⟨_, _, rfl, hr', hn'⟩, hK⟩
        · have hge : (len1 : Int) ≤ k := by omega
          clear hlt
          go_wp2_with fail
          go_meet
          exact ⟨l, HF, hll', HZ9, ⟨_, _, rfl, hr, hn⟩, ⟨_, _, rfl, hr', hn'⟩, hK⟩
  case rest =>
  clear hr hr' hn hn' hK HL hll
  obtain ⟨l, HL, hll, HZ, ⟨a, c, rfl, hr, hn⟩, ⟨a', c', rfl, hr', hn'⟩, hK⟩ := hcut
  have hcv1 := fun wx (h : Row wx a (B8 l)) => str_at (l := l) (Lib.hid rfl) h c (fun h => (hn h).2)
  have hcv2 := fun wx (h : Row wx a' (B8 l)) => str_at (l := l) (Lib.hid rfl) h c' (fun h => (hn' h).2)
  have HV1 := Lib.hid hcv1
  have HV2 := Lib.hid hcv2
  clear hcv1 hcv2
  go_upto_block 4 with (first
    | (go_at_call 9; refine (told1_any _).mono ?_; rintro e w5 ⟨rfl, hk5⟩; have cv1 := HV1.out _ (hr.keptNo hk5); have cv2 := HV2.out _ (hr'.keptNo hk5))
    | (go_at_call 8; refine (read_any a c l _ (hr.keptNo hk5) hn (by omega)).mono ?_; rintro e w6 ⟨r, rfl, hrn, hrd, hk6⟩))
  have hK6 : Kept No w w6 := (hK.trans hk5).trans hk6
  have hrw : w.heap.size ≤ r := by have := hK.size; have := hk5.size; omega
  rw [HL.out] at hrd
  clear cv1 cv2 HV1 HV2 hr hr' hn hn' hK hk5 hk6 hll HL
  have HRD := Lib.hid hrd
  clear hrd
  go_cut [] (fun wx => Rdr wx r (encS (ss.take 10)) 0 ∧ Kept No w wx)
  case first =>
    go_wp2_with fail
    go_loopw [10] (fun i wr => ∃ (k : Nat) (l : List UInt8), i = .int .i64 k ∧ k ≤ len0 ∧ k ≤ 20 ∧ Hid (l = encN ((ns.take 20).drop k) ++ encS (ss.take 10)) ∧ Rdr wr r l 0 ∧ Kept No w wr) (fun i _ => 20 - (intOf i).toNat)
    case atStart => exact ⟨0, _, rfl, by omega, by omega, Lib.hid rfl, HRD.out, hK6⟩
    case round =>
      clear HRD hK6
      obtain ⟨k, l, rfl, hk0, hk20, HL, hrd, hK⟩ := hrel
      by_cases hlt : k < len0 ∧ k < 20
      · obtain ⟨hl1, hl2⟩ := hlt
        have hl1I : (k : Int) < len0 := by omega
        have hl2I : (k : Int) < 20 := by omega
        have hk0I : (0 : Int) ≤ k := by omega
        obtain ⟨b0, off0, rfl, hb0, hc0⟩ : ∃ b off, a0 = some ⟨b, off, none⟩ ∧ b < w.heap.size ∧ ∀ i, i < len0 → w.cell? ⟨b, off + i, none⟩ = some (.int .u32 (ns.getD i 0 : Nat)) := by
          rcases HCN.out with h | h
          · omega
          · exact h
        have hcx := (hK.cell (p := ⟨b0, off0 + k, none⟩) hb0 (fun f => f)).trans (hc0 k hl1)
        have hx := HNB.out _ (getD_mem ns k (by rw [HN.out]; exact hl1))
        have hE := drop_get ns k (by rw [HN.out]; exact hl1) hl2
        rw [HL.out, hE, encN_cons, List.append_assoc] at hrd
        clear hE HL
        obtain ⟨R, HR9⟩ : ∃ R, Hid (R = encN ((ns.take 20).drop (k + 1)) ++ encS (ss.take 10)) := ⟨_, Lib.hid rfl⟩
        rw [← HR9.out] at hrd
        generalize ns.getD k 0 = x at *
        have hxI : (x : Int) ≤ 4294967295 := by omega
        have hw8 : IntKind.u8.wrap (x : Int) = (x : Int) % 256 := by rw [IntKind.wrap_u8]
        have hw16 : IntKind.u16.wrap (x : Int) = (x : Int) % 65536 := by rw [IntKind.wrap_u16]
        have hH0 : wr.drew.cell? ⟨b0, off0 + k, none⟩ = some (.int .u32 x) ∧ Kept No w wr.drew := ⟨hcx, hK.drew⟩
        clear hc0 HCN
        by_cases hxm : x ≤ 268435455
        · have hxmI : (x : Int) ≤ 268435455 := by omega
          have hdm : decide ((x : Int) ≤ 268435455) = true := decide_eq_true hxmI
          go_wp2_with fail
          refine wp_region_held_drew (S := (fun wx => wx.cell? ⟨b0, off0 + k, none⟩ = some (.int .u32 x) ∧ Kept No w wx)) (by kernel_rfl) ?_ (fun hHeld => ?_)
          · exact hH0
          refine wpAnyH_take (i := 0) (v := ?vvp0) rfl (by kernel_rfl) (by kernel_rfl) (by kernel_rfl) (fun _ _ _ h => h) (Or.inl ⟨by rfl, ?hhp0⟩) (by assumption) ?rrp0
          case hhp0 => (intro wz9 hSw; (try dsimp only at hSw); go_simp; try with_reducible rfl)
          go_simp
          refine wpAnyH_take (i := 2) (v := ?vvp2) rfl (by kernel_rfl) (by kernel_rfl) (by kernel_rfl) (fun _ _ _ h => h) (Or.inl ⟨by rfl, ?hhp2⟩) (by assumption) ?rrp2
          case hhp2 => (intro wz9 hSw; (try dsimp only at hSw); go_simp; try with_reducible rfl)
          go_simp
          refine wpAnyH_take (i := 3) (v := ?vvp3) rfl (by kernel_rfl) (by kernel_rfl) (by kernel_rfl) (fun _ _ _ h => h) (Or.inl ⟨by rfl, ?hhp3⟩) (by assumption) ?rrp3
          case hhp3 => (intro wz9 hSw; (try dsimp only at hSw); go_simp; try with_reducible rfl)
          go_simp
          refine wpAnyH_take (i := 4) (v := ?vvp4) rfl (by kernel_rfl) (by kernel_rfl) (by kernel_rfl) (fun _ _ _ h => h) (Or.inl ⟨by rfl, ?hhp4⟩) (by assumption) ?rrp4
          case hhp4 => (intro wz9 hSw; (try dsimp only at hSw); go_simp; try with_reducible rfl)
          go_simp
          refine wpAnyH_take (i := 5) (v := ?vvp5) rfl (by kernel_rfl) (by kernel_rfl) (by kernel_rfl) (fun _ _ _ h => h) (Or.inl ⟨by rfl, ?hhp5⟩) (by assumption) ?rrp5
          case hhp5 => (intro wz9 hSw; (try dsimp only at hSw); go_simp; try with_reducible rfl)
          go_simp
          refine wpAnyH_take (i := 6) (v := (.int .u8 ((x : Int) % 256))) rfl (by kernel_rfl) (by kernel_rfl) (by kernel_rfl) (fun _ _ _ h => h) (Or.inl ⟨by rfl, ?hhp6⟩) (by assumption) ?rrp6
          case hhp6 => (intro wz9 hSw; (try dsimp only at hSw); go_simp; try with_reducible rfl)
          go_simp
          refine wpAnyH_ready (rs := [1]) (by kernel_rfl) (by simp) ?_
          refine AllReadyH.cons rfl (fun K9 hK9 => ?_) AllReadyH.nil
          go_simp
          go_wp2_with (go_at_call 10; go_must (refine (rbyteX _ r x R (hrd.keptNo ((Kept.refl No wr).drew))).mono ?_); rintro e w21 ⟨rfl, ha21⟩)
          refine hK9.out _ _ ?_ (fun hHeld => ?_)
          · exact keepR ha21 hrw hb0 (by assumption)
          clear hK9 K9
          refine wpAnyH_take (i := 7) (v := (.bool false)) rfl (by kernel_rfl) (by kernel_rfl) (by kernel_rfl) (fun _ _ _ h => h) (Or.inl ⟨by rfl, ?hhp7⟩) (by assumption) ?rrp7
          case hhp7 => (intro wz9 hSw; (try dsimp only at hSw); go_simp; try with_reducible rfl)
          go_simp
          refine wpAnyH_take (i := 8) (v := (.bool false)) rfl (by kernel_rfl) (by kernel_rfl) (by kernel_rfl) (fun _ _ _ h => h) (Or.inl ⟨by rfl, ?hhp8⟩) (by assumption) ?rrp8
          case hhp8 => (intro wz9 hSw; (try dsimp only at hSw); go_simp; try with_reducible rfl)
          go_simp
          refine wpAnyH_take (i := 9) (v := ?vvp9) rfl (by kernel_rfl) (by kernel_rfl) (by kernel_rfl) (fun _ _ _ h => h) (Or.inl ⟨by rfl, ?hhp9⟩) (by assumption) ?rrp9
          case hhp9 => (intro wz9 hSw; (try dsimp only at hSw); go_simp; try with_reducible rfl)
          go_simp
          refine wpAnyH_take (i := 11) (v := ?vvp11) rfl (by kernel_rfl) (by kernel_rfl) (by kernel_rfl) (fun _ _ _ h => h) (Or.inl ⟨by rfl, ?hhp11⟩) (by assumption) ?rrp11
          case hhp11 => (intro wz9 hSw; (try dsimp only at hSw); go_simp; try with_reducible rfl)
          go_simp
          refine wpAnyH_take (i := 12) (v := ?vvp12) rfl (by kernel_rfl) (by kernel_rfl) (by kernel_rfl) (fun _ _ _ h => h) (Or.inl ⟨by rfl, ?hhp12⟩) (by assumption) ?rrp12
          case hhp12 => (intro wz9 hSw; (try dsimp only at hSw); go_simp; try with_reducible rfl)
          go_simp
          refine wpAnyH_take (i := 13) (v := ?vvp13) rfl (by kernel_rfl) (by kernel_rfl) (by kernel_rfl) (fun _ _ _ h => h) (Or.inl ⟨by rfl, ?hhp13⟩) (by assumption) ?rrp13
          case hhp13 => (intro wz9 hSw; (try dsimp only at hSw); go_simp; try with_reducible rfl)
          go_simp
          refine wpAnyH_take (i := 14) (v := ?vvp14) rfl (by kernel_rfl) (by kernel_rfl) (by kernel_rfl) (fun _ _ _ h => h) (Or.inl ⟨by rfl, ?hhp14⟩) (by assumption) ?rrp14
          case hhp14 => (intro wz9 hSw; (try dsimp only at hSw); go_simp; try with_reducible rfl)
          go_simp
          refine wpAnyH_take (i := 15) (v := (.int .u16 ((x : Int) % 65536))) rfl (by kernel_rfl) (by kernel_rfl) (by kernel_rfl) (fun _ _ _ h => h) (Or.inl ⟨by rfl, ?hhp15⟩) (by assumption) ?rrp15
          case hhp15 => (intro wz9 hSw; (try dsimp only at hSw); go_simp; try with_reducible rfl)
          go_simp
          refine wpAnyH_ready (rs := [10]) (by kernel_rfl) (by simp) ?_
          refine AllReadyH.cons rfl (fun K9 hK9 => ?_) AllReadyH.nil
          go_simp
          go_wp2_with (go_at_call 12; go_must (refine (rtwoX _ r x R ha21.rdr).mono ?_); rintro e w22 ⟨rfl, ha22⟩)
          refine hK9.out _ _ ?_ (fun hHeld => ?_)
          · exact keepR ha22 hrw hb0 (by assumption)
          clear hK9 K9
          refine wpAnyH_take (i := 16) (v := (.bool false)) rfl (by kernel_rfl) (by kernel_rfl) (by kernel_rfl) (fun _ _ _ h => h) (Or.inl ⟨by rfl, ?hhp16⟩) (by assumption) ?rrp16
          case hhp16 => (intro wz9 hSw; (try dsimp only at hSw); go_simp; try with_reducible rfl)
          go_simp
          refine wpAnyH_take (i := 17) (v := (.bool false)) rfl (by kernel_rfl) (by kernel_rfl) (by kernel_rfl) (fun _ _ _ h => h) (Or.inl ⟨by rfl, ?hhp17⟩) (by assumption) ?rrp17
          case hhp17 => (intro wz9 hSw; (try dsimp only at hSw); go_simp; try with_reducible rfl)
          go_simp
          refine wpAnyH_take (i := 18) (v := (.bool false)) rfl (by kernel_rfl) (by kernel_rfl) (by kernel_rfl) (fun _ _ _ h => h) (Or.inl ⟨by rfl, ?hhp18⟩) (by assumption) ?rrp18
          case hhp18 => (intro wz9 hSw; (try dsimp only at hSw); go_simp; try with_reducible rfl)
          go_simp
          refine wpAnyH_take (i := 19) (v := ?vvp19) rfl (by kernel_rfl) (by kernel_rfl) (by kernel_rfl) (fun _ _ _ h => h) (Or.inl ⟨by rfl, ?hhp19⟩) (by assumption) ?rrp19
          case hhp19 => (intro wz9 hSw; (try dsimp only at hSw); go_simp; try with_reducible rfl)
          go_simp
          refine wpAnyH_take (i := 21) (v := ?vvp21) rfl (by kernel_rfl) (by kernel_rfl) (by kernel_rfl) (fun _ _ _ h => h) (Or.inl ⟨by rfl, ?hhp21⟩) (by assumption) ?rrp21
          case hhp21 => (intro wz9 hSw; (try dsimp only at hSw); go_simp; try with_reducible rfl)
          go_simp
          refine wpAnyH_take (i := 22) (v := ?vvp22) rfl (by kernel_rfl) (by kernel_rfl) (by kernel_rfl) (fun _ _ _ h => h) (Or.inl ⟨by rfl, ?hhp22⟩) (by assumption) ?rrp22
          case hhp22 => (intro wz9 hSw; (try dsimp only at hSw); go_simp; try with_reducible rfl)
          go_simp
          refine wpAnyH_take (i := 23) (v := ?vvp23) rfl (by kernel_rfl) (by kernel_rfl) (by kernel_rfl) (fun _ _ _ h => h) (Or.inl ⟨by rfl, ?hhp23⟩) (by assumption) ?rrp23
          case hhp23 => (intro wz9 hSw; (try dsimp only at hSw); go_simp; try with_reducible rfl)
          go_simp
          refine wpAnyH_take (i := 24) (v := ?vvp24) rfl (by kernel_rfl) (by kernel_rfl) (by kernel_rfl) (fun _ _ _ h => h) (Or.inl ⟨by rfl, ?hhp24⟩) (by assumption) ?rrp24
          case hhp24 => (intro wz9 hSw; (try dsimp only at hSw); go_simp; try with_reducible rfl)
          go_simp
          refine wpAnyH_ready (rs := [20]) (by kernel_rfl) (by simp) ?_
          refine AllReadyH.cons rfl (fun K9 hK9 => ?_) AllReadyH.nil
          go_simp
          go_wp2_with (go_at_call 13; go_must (refine (rfourX _ r x R hx ha22.rdr).mono ?_); rintro e w23 ⟨rfl, ha23⟩)
          refine hK9.out _ _ ?_ (fun hHeld => ?_)
          · exact keepR ha23 hrw hb0 (by assumption)
          clear hK9 K9
          refine wpAnyH_take (i := 25) (v := (.bool false)) rfl (by kernel_rfl) (by kernel_rfl) (by kernel_rfl) (fun _ _ _ h => h) (Or.inl ⟨by rfl, ?hhp25⟩) (by assumption) ?rrp25
          case hhp25 => (intro wz9 hSw; (try dsimp only at hSw); go_simp; try with_reducible rfl)
          go_simp
          refine wpAnyH_take (i := 26) (v := (.bool false)) rfl (by kernel_rfl) (by kernel_rfl) (by kernel_rfl) (fun _ _ _ h => h) (Or.inl ⟨by rfl, ?hhp26⟩) (by assumption) ?rrp26
          case hhp26 => (intro wz9 hSw; (try dsimp only at hSw); go_simp; try with_reducible rfl)
          go_simp
          refine wpAnyH_take (i := 27) (v := (.bool false)) rfl (by kernel_rfl) (by kernel_rfl) (by kernel_rfl) (fun _ _ _ h => h) (Or.inl ⟨by rfl, ?hhp27⟩) (by assumption) ?rrp27
          case hhp27 => (intro wz9 hSw; (try dsimp only at hSw); go_simp; try with_reducible rfl)
          go_simp
          refine wpAnyH_take (i := 28) (v := ?vvp28) rfl (by kernel_rfl) (by kernel_rfl) (by kernel_rfl) (fun _ _ _ h => h) (Or.inl ⟨by rfl, ?hhp28⟩) (by assumption) ?rrp28
          case hhp28 => (intro wz9 hSw; (try dsimp only at hSw); go_simp; try with_reducible rfl)
          go_simp
          refine wpAnyH_take (i := 29) (v := ?vvp29) rfl (by kernel_rfl) (by kernel_rfl) (by kernel_rfl) (fun _ _ _ h => h) (Or.inl ⟨by rfl, ?hhp29⟩) (by assumption) ?rrp29
          case hhp29 => (intro wz9 hSw; (try dsimp only at hSw); go_simp; try with_reducible rfl)
          go_simp
          refine wpAnyH_take (i := 30) (v := ?vvp30) rfl (by kernel_rfl) (by kernel_rfl) (by kernel_rfl) (fun _ _ _ h => h) (Or.inl ⟨by rfl, ?hhp30⟩) (by assumption) ?rrp30
          case hhp30 => (intro wz9 hSw; (try dsimp only at hSw); go_simp; try with_reducible rfl)
          go_simp
          refine wpAnyH_take (i := 31) (v := ?vvp31) rfl (by kernel_rfl) (by kernel_rfl) (by kernel_rfl) (fun _ _ _ h => h) (Or.inl ⟨by rfl, ?hhp31⟩) (by assumption) ?rrp31
          case hhp31 => (intro wz9 hSw; (try dsimp only at hSw); go_simp; try with_reducible rfl)
          go_simp
          refine wpAnyH_take (i := 32) (v := (.bool true)) rfl (by kernel_rfl) (by kernel_rfl) (by kernel_rfl) (fun _ _ _ h => h) (Or.inl ⟨by rfl, ?hhp32⟩) (by assumption) ?rrp32
          case hhp32 => (intro wz9 hSw; (try dsimp only at hSw); go_simp; try with_reducible rfl)
          go_simp
          refine wpAnyH_take (i := 33) (v := (.bool true)) rfl (by kernel_rfl) (by kernel_rfl) (by kernel_rfl) (fun _ _ _ h => h) (Or.inl ⟨by rfl, ?hhp33⟩) (by assumption) ?rrp33
          case hhp33 => (intro wz9 hSw; (try dsimp only at hSw); go_simp; try with_reducible rfl)
          go_simp
          refine wpAnyH_take (i := 34) (v := ?vvp34) rfl (by kernel_rfl) (by kernel_rfl) (by kernel_rfl) (fun _ _ _ h => h) (Or.inl ⟨by rfl, ?hhp34⟩) (by assumption) ?rrp34
          case hhp34 => (intro wz9 hSw; (try dsimp only at hSw); go_simp; try with_reducible rfl)
          go_simp
          refine wpAnyH_take (i := 36) (v := ?vvp36) rfl (by kernel_rfl) (by kernel_rfl) (by kernel_rfl) (fun _ _ _ h => h) (Or.inl ⟨by rfl, ?hhp36⟩) (by assumption) ?rrp36
          case hhp36 => (intro wz9 hSw; (try dsimp only at hSw); go_simp; try with_reducible rfl)
          go_simp
          refine wpAnyH_take (i := 37) (v := ?vvp37) rfl (by kernel_rfl) (by kernel_rfl) (by kernel_rfl) (fun _ _ _ h => h) (Or.inl ⟨by rfl, ?hhp37⟩) (by assumption) ?rrp37
          case hhp37 => (intro wz9 hSw; (try dsimp only at hSw); go_simp; try with_reducible rfl)
          go_simp
          refine wpAnyH_take (i := 38) (v := ?vvp38) rfl (by kernel_rfl) (by kernel_rfl) (by kernel_rfl) (fun _ _ _ h => h) (Or.inl ⟨by rfl, ?hhp38⟩) (by assumption) ?rrp38
          case hhp38 => (intro wz9 hSw; (try dsimp only at hSw); go_simp; try with_reducible rfl)
          go_simp
          refine wpAnyH_take (i := 39) (v := ?vvp39) rfl (by kernel_rfl) (by kernel_rfl) (by kernel_rfl) (fun _ _ _ h => h) (Or.inl ⟨by rfl, ?hhp39⟩) (by assumption) ?rrp39
          case hhp39 => (intro wz9 hSw; (try dsimp only at hSw); go_simp; try with_reducible rfl)
          go_simp
          refine wpAnyH_ready (rs := [35]) (by kernel_rfl) (by simp) ?_
          refine AllReadyH.cons rfl (fun K9 hK9 => ?_) AllReadyH.nil
          go_simp
          go_wp2_with (go_at_call 14; go_must (refine (rvarX _ r x R hxm ha23.rdr).mono ?_); rintro e w24 ⟨rfl, ha24⟩)
          refine hK9.out _ _ ?_ (fun hHeld => ?_)
          · exact keepR ha24 hrw hb0 (by assumption)
          clear hK9 K9
          refine wpAnyH_take (i := 40) (v := (.bool false)) rfl (by kernel_rfl) (by kernel_rfl) (by kernel_rfl) (fun _ _ _ h => h) (Or.inl ⟨by rfl, ?hhp40⟩) (by assumption) ?rrp40
          case hhp40 => (intro wz9 hSw; (try dsimp only at hSw); go_simp; try with_reducible rfl)
          go_simp
          refine wpAnyH_take (i := 41) (v := (.bool false)) rfl (by kernel_rfl) (by kernel_rfl) (by kernel_rfl) (fun _ _ _ h => h) (Or.inl ⟨by rfl, ?hhp41⟩) (by assumption) ?rrp41
          case hhp41 => (intro wz9 hSw; (try dsimp only at hSw); go_simp; try with_reducible rfl)
          go_simp
          refine wpAnyH_take (i := 42) (v := (.bool false)) rfl (by kernel_rfl) (by kernel_rfl) (by kernel_rfl) (fun _ _ _ h => h) (Or.inl ⟨by rfl, ?hhp42⟩) (by assumption) ?rrp42
          case hhp42 => (intro wz9 hSw; (try dsimp only at hSw); go_simp; try with_reducible rfl)
          go_simp
          refine wpAnyH_done (by kernel_rfl) ?_ _
          have hH9 := keepR ha24 hrw hb0 (keepR ha23 hrw hb0 (keepR ha22 hrw hb0 (keepR ha21 hrw hb0 hH0)))
          have hRd := Lib.hid ha24.rdr
          clear ha21 ha22 ha23 ha24 hrd hK hH0
          obtain ⟨_, hK⟩ := hH9
          go_wp2
          go_roundw
          case rel => exact ⟨k + 1, R, by go_num, by omega, by omega, HR9, hRd.out, hK⟩
          case measure => simp [intOf]; omega

        · have hxmI : (268435455 : Int) < x := by omega
          have hdm : decide ((x : Int) ≤ 268435455) = false := decide_eq_false (by omega)
          go_wp2_with fail
          refine wp_region_held_drew (S := (fun wx => wx.cell? ⟨b0, off0 + k, none⟩ = some (.int .u32 x) ∧ Kept No w wx)) (by kernel_rfl) ?_ (fun hHeld => ?_)
          · exact hH0
          refine wpAnyH_take (i := 0) (v := ?vvq0) rfl (by kernel_rfl) (by kernel_rfl) (by kernel_rfl) (fun _ _ _ h => h) (Or.inl ⟨by rfl, ?hhq0⟩) (by assumption) ?rrq0
          case hhq0 => (intro wz9 hSw; (try dsimp only at hSw); go_simp; try with_reducible rfl)
          go_simp
          refine wpAnyH_take (i := 2) (v := ?vvq2) rfl (by kernel_rfl) (by kernel_rfl) (by kernel_rfl) (fun _ _ _ h => h) (Or.inl ⟨by rfl, ?hhq2⟩) (by assumption) ?rrq2
          case hhq2 => (intro wz9 hSw; (try dsimp only at hSw); go_simp; try with_reducible rfl)
          go_simp
          refine wpAnyH_take (i := 3) (v := ?vvq3) rfl (by kernel_rfl) (by kernel_rfl) (by kernel_rfl) (fun _ _ _ h => h) (Or.inl ⟨by rfl, ?hhq3⟩) (by assumption) ?rrq3
          case hhq3 => (intro wz9 hSw; (try dsimp only at hSw); go_simp; try with_reducible rfl)
          go_simp
          refine wpAnyH_take (i := 4) (v := ?vvq4) rfl (by kernel_rfl) (by kernel_rfl) (by kernel_rfl) (fun _ _ _ h => h) (Or.inl ⟨by rfl, ?hhq4⟩) (by assumption) ?rrq4
          case hhq4 => (intro wz9 hSw; (try dsimp only at hSw); go_simp; try with_reducible rfl)
          go_simp
          refine wpAnyH_take (i := 5) (v := ?vvq5) rfl (by kernel_rfl) (by kernel_rfl) (by kernel_rfl) (fun _ _ _ h => h) (Or.inl ⟨by rfl, ?hhq5⟩) (by assumption) ?rrq5
          case hhq5 => (intro wz9 hSw; (try dsimp only at hSw); go_simp; try with_reducible rfl)
          go_simp
          refine wpAnyH_take (i := 6) (v := (.int .u8 ((x : Int) % 256))) rfl (by kernel_rfl) (by kernel_rfl) (by kernel_rfl) (fun _ _ _ h => h) (Or.inl ⟨by rfl, ?hhq6⟩) (by assumption) ?rrq6
          case hhq6 => (intro wz9 hSw; (try dsimp only at hSw); go_simp; try with_reducible rfl)
          go_simp
          refine wpAnyH_ready (rs := [1]) (by kernel_rfl) (by simp) ?_
          refine AllReadyH.cons rfl (fun K9 hK9 => ?_) AllReadyH.nil
          go_simp
          go_wp2_with (go_at_call 10; go_must (refine (rbyteX _ r x R (hrd.keptNo ((Kept.refl No wr).drew))).mono ?_); rintro e w21 ⟨rfl, ha21⟩)
          refine hK9.out _ _ ?_ (fun hHeld => ?_)
          · exact keepR ha21 hrw hb0 (by assumption)
          clear hK9 K9
          refine wpAnyH_take (i := 7) (v := (.bool false)) rfl (by kernel_rfl) (by kernel_rfl) (by kernel_rfl) (fun _ _ _ h => h) (Or.inl ⟨by rfl, ?hhq7⟩) (by assumption) ?rrq7
          case hhq7 => (intro wz9 hSw; (try dsimp only at hSw); go_simp; try with_reducible rfl)
          go_simp
          refine wpAnyH_take (i := 8) (v := (.bool false)) rfl (by kernel_rfl) (by kernel_rfl) (by kernel_rfl) (fun _ _ _ h => h) (Or.inl ⟨by rfl, ?hhq8⟩) (by assumption) ?rrq8
          case hhq8 => (intro wz9 hSw; (try dsimp only at hSw); go_simp; try with_reducible rfl)
          go_simp
          refine wpAnyH_take (i := 9) (v := ?vvq9) rfl (by kernel_rfl) (by kernel_rfl) (by kernel_rfl) (fun _ _ _ h => h) (Or.inl ⟨by rfl, ?hhq9⟩) (by assumption) ?rrq9
          case hhq9 => (intro wz9 hSw; (try dsimp only at hSw); go_simp; try with_reducible rfl)
          go_simp
          refine wpAnyH_take (i := 11) (v := ?vvq11) rfl (by kernel_rfl) (by kernel_rfl) (by kernel_rfl) (fun _ _ _ h => h) (Or.inl ⟨by rfl, ?hhq11⟩) (by assumption) ?rrq11
          case hhq11 => (intro wz9 hSw; (try dsimp only at hSw); go_simp; try with_reducible rfl)
          go_simp
          refine wpAnyH_take (i := 12) (v := ?vvq12) rfl (by kernel_rfl) (by kernel_rfl) (by kernel_rfl) (fun _ _ _ h => h) (Or.inl ⟨by rfl, ?hhq12⟩) (by assumption) ?rrq12
          case hhq12 => (intro wz9 hSw; (try dsimp only at hSw); go_simp; try with_reducible rfl)
          go_simp
          refine wpAnyH_take (i := 13) (v := ?vvq13) rfl (by kernel_rfl) (by kernel_rfl) (by kernel_rfl) (fun _ _ _ h => h) (Or.inl ⟨by rfl, ?hhq13⟩) (by assumption) ?rrq13
          case hhq13 => (intro wz9 hSw; (try dsimp only at hSw); go_simp; try with_reducible rfl)
          go_simp
          refine wpAnyH_take (i := 14) (v := ?vvq14) rfl (by kernel_rfl) (by kernel_rfl) (by kernel_rfl) (fun _ _ _ h => h) (Or.inl ⟨by rfl, ?hhq14⟩) (by assumption) ?rrq14
          case hhq14 => (intro wz9 hSw; (try dsimp only at hSw); go_simp; try with_reducible rfl)
          go_simp
          refine wpAnyH_take (i := 15) (v := (.int .u16 ((x : Int) % 65536))) rfl (by kernel_rfl) (by kernel_rfl) (by kernel_rfl) (fun _ _ _ h => h) (Or.inl ⟨by rfl, ?hhq15⟩) (by assumption) ?rrq15
          case hhq15 => (intro wz9 hSw; (try dsimp only at hSw); go_simp; try with_reducible rfl)
          go_simp
          refine wpAnyH_ready (rs := [10]) (by kernel_rfl) (by simp) ?_
          refine AllReadyH.cons rfl (fun K9 hK9 => ?_) AllReadyH.nil
          go_simp
          go_wp2_with (go_at_call 12; go_must (refine (rtwoX _ r x R ha21.rdr).mono ?_); rintro e w22 ⟨rfl, ha22⟩)
          refine hK9.out _ _ ?_ (fun hHeld => ?_)
          · exact keepR ha22 hrw hb0 (by assumption)
          clear hK9 K9
          refine wpAnyH_take (i := 16) (v := (.bool false)) rfl (by kernel_rfl) (by kernel_rfl) (by kernel_rfl) (fun _ _ _ h => h) (Or.inl ⟨by rfl, ?hhq16⟩) (by assumption) ?rrq16
          case hhq16 => (intro wz9 hSw; (try dsimp only at hSw); go_simp; try with_reducible rfl)
          go_simp
          refine wpAnyH_take (i := 17) (v := (.bool false)) rfl (by kernel_rfl) (by kernel_rfl) (by kernel_rfl) (fun _ _ _ h => h) (Or.inl ⟨by rfl, ?hhq17⟩) (by assumption) ?rrq17
          case hhq17 => (intro wz9 hSw; (try dsimp only at hSw); go_simp; try with_reducible rfl)
          go_simp
          refine wpAnyH_take (i := 18) (v := (.bool false)) rfl (by kernel_rfl) (by kernel_rfl) (by kernel_rfl) (fun _ _ _ h => h) (Or.inl ⟨by rfl, ?hhq18⟩) (by assumption) ?rrq18
          case hhq18 => (intro wz9 hSw; (try dsimp only at hSw); go_simp; try with_reducible rfl)
          go_simp
          refine wpAnyH_take (i := 19) (v := ?vvq19) rfl (by kernel_rfl) (by kernel_rfl) (by kernel_rfl) (fun _ _ _ h => h) (Or.inl ⟨by rfl, ?hhq19⟩) (by assumption) ?rrq19
          case hhq19 => (intro wz9 hSw; (try dsimp only at hSw); go_simp; try with_reducible rfl)
          go_simp
          refine wpAnyH_take (i := 21) (v := ?vvq21) rfl (by kernel_rfl) (by kernel_rfl) (by kernel_rfl) (fun _ _ _ h => h) (Or.inl ⟨by rfl, ?hhq21⟩) (by assumption) ?rrq21
          case hhq21 => (intro wz9 hSw; (try dsimp only at hSw); go_simp; try with_reducible rfl)
          go_simp
          refine wpAnyH_take (i := 22) (v := ?vvq22) rfl (by kernel_rfl) (by kernel_rfl) (by kernel_rfl) (fun _ _ _ h => h) (Or.inl ⟨by rfl, ?hhq22⟩) (by assumption) ?rrq22
          case hhq22 => (intro wz9 hSw; (try dsimp only at hSw); go_simp; try with_reducible rfl)
          go_simp
          refine wpAnyH_take (i := 23) (v := ?vvq23) rfl (by kernel_rfl) (by kernel_rfl) (by kernel_rfl) (fun _ _ _ h => h) (Or.inl ⟨by rfl, ?hhq23⟩) (by assumption) ?rrq23
          case hhq23 => (intro wz9 hSw; (try dsimp only at hSw); go_simp; try with_reducible rfl)
          go_simp
          refine wpAnyH_take (i := 24) (v := ?vvq24) rfl (by kernel_rfl) (by kernel_rfl) (by kernel_rfl) (fun _ _ _ h => h) (Or.inl ⟨by rfl, ?hhq24⟩) (by assumption) ?rrq24
          case hhq24 => (intro wz9 hSw; (try dsimp only at hSw); go_simp; try with_reducible rfl)
          go_simp
          refine wpAnyH_ready (rs := [20]) (by kernel_rfl) (by simp) ?_
          refine AllReadyH.cons rfl (fun K9 hK9 => ?_) AllReadyH.nil
          go_simp
          go_wp2_with (go_at_call 13; go_must (refine (rfourX _ r x R hx ha22.rdr).mono ?_); rintro e w23 ⟨rfl, ha23⟩)
          refine hK9.out _ _ ?_ (fun hHeld => ?_)
          · exact keepR ha23 hrw hb0 (by assumption)
          clear hK9 K9
          refine wpAnyH_take (i := 25) (v := (.bool false)) rfl (by kernel_rfl) (by kernel_rfl) (by kernel_rfl) (fun _ _ _ h => h) (Or.inl ⟨by rfl, ?hhq25⟩) (by assumption) ?rrq25
          case hhq25 => (intro wz9 hSw; (try dsimp only at hSw); go_simp; try with_reducible rfl)
          go_simp
          refine wpAnyH_take (i := 26) (v := (.bool false)) rfl (by kernel_rfl) (by kernel_rfl) (by kernel_rfl) (fun _ _ _ h => h) (Or.inl ⟨by rfl, ?hhq26⟩) (by assumption) ?rrq26
          case hhq26 => (intro wz9 hSw; (try dsimp only at hSw); go_simp; try with_reducible rfl)
          go_simp
          refine wpAnyH_take (i := 27) (v := (.bool false)) rfl (by kernel_rfl) (by kernel_rfl) (by kernel_rfl) (fun _ _ _ h => h) (Or.inl ⟨by rfl, ?hhq27⟩) (by assumption) ?rrq27
          case hhq27 => (intro wz9 hSw; (try dsimp only at hSw); go_simp; try with_reducible rfl)
          go_simp
          refine wpAnyH_take (i := 28) (v := ?vvq28) rfl (by kernel_rfl) (by kernel_rfl) (by kernel_rfl) (fun _ _ _ h => h) (Or.inl ⟨by rfl, ?hhq28⟩) (by assumption) ?rrq28
          case hhq28 => (intro wz9 hSw; (try dsimp only at hSw); go_simp; try with_reducible rfl)
          go_simp
          refine wpAnyH_take (i := 29) (v := ?vvq29) rfl (by kernel_rfl) (by kernel_rfl) (by kernel_rfl) (fun _ _ _ h => h) (Or.inl ⟨by rfl, ?hhq29⟩) (by assumption) ?rrq29
          case hhq29 => (intro wz9 hSw; (try dsimp only at hSw); go_simp; try with_reducible rfl)
          go_simp
          refine wpAnyH_take (i := 30) (v := ?vvq30) rfl (by kernel_rfl) (by kernel_rfl) (by kernel_rfl) (fun _ _ _ h => h) (Or.inl ⟨by rfl, ?hhq30⟩) (by assumption) ?rrq30
          case hhq30 => (intro wz9 hSw; (try dsimp only at hSw); go_simp; try with_reducible rfl)
          go_simp
          refine wpAnyH_take (i := 31) (v := ?vvq31) rfl (by kernel_rfl) (by kernel_rfl) (by kernel_rfl) (fun _ _ _ h => h) (Or.inl ⟨by rfl, ?hhq31⟩) (by assumption) ?rrq31
          case hhq31 => (intro wz9 hSw; (try dsimp only at hSw); go_simp; try with_reducible rfl)
          go_simp
          refine wpAnyH_take (i := 32) (v := (.bool false)) rfl (by kernel_rfl) (by kernel_rfl) (by kernel_rfl) (fun _ _ _ h => h) (Or.inl ⟨by rfl, ?hhq32⟩) (by assumption) ?rrq32
          case hhq32 => (intro wz9 hSw; (try dsimp only at hSw); go_simp; try with_reducible rfl)
          go_simp
          refine wpAnyH_take (i := 33) (v := (.bool false)) rfl (by kernel_rfl) (by kernel_rfl) (by kernel_rfl) (fun _ _ _ h => h) (Or.inl ⟨by rfl, ?hhq33⟩) (by assumption) ?rrq33
          case hhq33 => (intro wz9 hSw; (try dsimp only at hSw); go_simp; try with_reducible rfl)
          go_simp
          refine wpAnyH_take (i := 34) (v := undef) rfl (by kernel_rfl) (by kernel_rfl) (by kernel_rfl) (fun _ _ _ h => h) (Or.inr ⟨by rfl, rfl⟩) (by assumption) ?_
          go_simp
          refine wpAnyH_take (i := 35) (v := undef) rfl (by kernel_rfl) (by kernel_rfl) (by kernel_rfl) (fun _ _ _ h => h) (Or.inr ⟨by rfl, rfl⟩) (by assumption) ?_
          go_simp
          refine wpAnyH_take (i := 36) (v := undef) rfl (by kernel_rfl) (by kernel_rfl) (by kernel_rfl) (fun _ _ _ h => h) (Or.inr ⟨by rfl, rfl⟩) (by assumption) ?_
          go_simp
          refine wpAnyH_take (i := 37) (v := undef) rfl (by kernel_rfl) (by kernel_rfl) (by kernel_rfl) (fun _ _ _ h => h) (Or.inr ⟨by rfl, rfl⟩) (by assumption) ?_
          go_simp
          refine wpAnyH_take (i := 38) (v := undef) rfl (by kernel_rfl) (by kernel_rfl) (by kernel_rfl) (fun _ _ _ h => h) (Or.inr ⟨by rfl, rfl⟩) (by assumption) ?_
          go_simp
          refine wpAnyH_take (i := 39) (v := undef) rfl (by kernel_rfl) (by kernel_rfl) (by kernel_rfl) (fun _ _ _ h => h) (Or.inr ⟨by rfl, rfl⟩) (by assumption) ?_
          go_simp
          refine wpAnyH_take (i := 40) (v := undef) rfl (by kernel_rfl) (by kernel_rfl) (by kernel_rfl) (fun _ _ _ h => h) (Or.inr ⟨by rfl, rfl⟩) (by assumption) ?_
          go_simp
          refine wpAnyH_take (i := 41) (v := (.bool false)) rfl (by kernel_rfl) (by kernel_rfl) (by kernel_rfl) (fun _ _ _ h => h) (Or.inl ⟨by rfl, ?hhq41⟩) (by assumption) ?rrq41
          case hhq41 => (intro wz9 hSw; (try dsimp only at hSw); go_simp; try with_reducible rfl)
          go_simp
          refine wpAnyH_take (i := 42) (v := (.bool false)) rfl (by kernel_rfl) (by kernel_rfl) (by kernel_rfl) (fun _ _ _ h => h) (Or.inl ⟨by rfl, ?hhq42⟩) (by assumption) ?rrq42
          case hhq42 => (intro wz9 hSw; (try dsimp only at hSw); go_simp; try with_reducible rfl)
          go_simp
          refine wpAnyH_done (by kernel_rfl) ?_ _
          have hH9 := keepR ha23 hrw hb0 (keepR ha22 hrw hb0 (keepR ha21 hrw hb0 hH0))
          have hrd9 : Rdr w23 r R 0 := by have := ha23.rdr; unfold aft3 varL at this; rw [if_neg hxm] at this; simpa using this
          have hRd := Lib.hid hrd9
          clear ha21 ha22 ha23 hrd9 hrd hK hH0
          obtain ⟨_, hK⟩ := hH9
          go_wp2
          go_roundw
          case rel => exact ⟨k + 1, R, by go_num, by omega, by omega, HR9, hRd.out, hK⟩
          case measure => simp [intOf]; omega

      · have ht : Hid (l = encS (ss.take 10)) := Lib.hid (by
          rw [HL.out, List.drop_of_length_le (by rw [List.length_take, HN.out]; omega)]; rfl)
        rw [ht.out] at hrd
        by_cases hl1 : k < len0
        · have hl1I : (k : Int) < len0 := by omega
          have hge : (20 : Int) ≤ k := by omega
          clear hlt
          go_wp2_with fail
          go_meet
          exact ⟨hrd, hK⟩
        · have hge : (len0 : Int) ≤ k := by omega
          clear hlt
          go_wp2_with fail
          go_meet
          exact ⟨hrd, hK⟩
  case rest =>
  clear HRD hK6
  obtain ⟨hrd, hK⟩ := hcut
  have HRD := Lib.hid hrd
  clear hrd
  go_upto_block 6 with fail
  go_cut [] (fun wx => Rdr wx r [] 0 ∧ Kept No w wx)
  case first =>
    go_wp2_with fail
    go_loopw [11] (fun i wr => ∃ (k : Nat) (l : List UInt8), i = .int .i64 k ∧ k ≤ len1 ∧ k ≤ 10 ∧ Hid (l = encS ((ss.take 10).drop k)) ∧ Rdr wr r l 0 ∧ Kept No w wr) (fun i _ => 10 - (intOf i).toNat)
    case atStart => exact ⟨0, _, rfl, by omega, by omega, Lib.hid rfl, HRD.out, hK⟩
    case round =>
      clear HRD hK
      obtain ⟨k, l, rfl, hk0, hk20, HL, hrd, hK⟩ := hrel
      by_cases hlt : k < len1 ∧ k < 10
      · obtain ⟨hl1, hl2⟩ := hlt
        have hl1I : (k : Int) < len1 := by omega
        have hl2I : (k : Int) < 10 := by omega
        have hk0I : (0 : Int) ≤ k := by omega
        obtain ⟨b0, off0, rfl, hb0, hc0⟩ : ∃ b off, a1 = some ⟨b, off, none⟩ ∧ b < w.heap.size ∧ ∀ i, i < len1 → w.cell? ⟨b, off + i, none⟩ = some (.string (ss.getD i ByteArray.empty)) := by
          rcases HCS.out with h | h
          · omega
          · exact h
        have hcx := (hK.cell (p := ⟨b0, off0 + k, none⟩) hb0 (fun f => f)).trans (hc0 k hl1)
        have hE := drop_getS ss k (by rw [HS.out]; exact hl1) hl2
        have hmem : ss.getD k ByteArray.empty ∈ ss.take 10 := List.mem_of_mem_drop (i := k) (by rw [hE]; simp)
        have hx := HZ.out _ hmem
        rw [HL.out, hE, encS_cons] at hrd
        clear hE HL hmem
        obtain ⟨R, HR9⟩ : ∃ R, Hid (R = encS ((ss.take 10).drop (k + 1))) := ⟨_, Lib.hid rfl⟩
        rw [← HR9.out] at hrd
        generalize ss.getD k ByteArray.empty = x at *
        have hH0 : wr.drew.cell? ⟨b0, off0 + k, none⟩ = some (.string x) ∧ Kept No w wr.drew := ⟨hcx, hK.drew⟩
        clear hc0 HCS
        go_wp2_with fail
        go_region_held3 (fun wx => wx.cell? ⟨b0, off0 + k, none⟩ = some (.string x) ∧ Kept No w wx) (first | exact hH0 | exact keepR ha21 hrw hb0 (by assumption) | assumption)
          (first
            | (go_at_call 16; go_must (refine (rbinX _ r x R (by omega) (hrd.keptNo ((Kept.refl No wr).drew))).mono ?_); rintro e w21 ⟨rfl, ha21⟩))
        have hH9 := keepR ha21 hrw hb0 hH0
        have hRd := Lib.hid ha21.rdr
        clear ha21 hrd hK hH0
        obtain ⟨_, hK⟩ := hH9
        go_wp2
        go_roundw
        case rel => exact ⟨k + 1, R, by go_num, by omega, by omega, HR9, hRd.out, hK⟩
        case measure => simp [intOf]; omega
      · have ht : Hid (l = []) := Lib.hid (by
          rw [HL.out, List.drop_of_length_le (by rw [List.length_take, HS.out]; omega)]; rfl)
        rw [ht.out] at hrd
        by_cases hl1 : k < len1
        · have hl1I : (k : Int) < len1 := by omega
          have hge : (10 : Int) ≤ k := by omega
          clear hlt
          go_wp2_with fail
          go_meet
          exact ⟨hrd, hK⟩
        · have hge : (len1 : Int) ≤ k := by omega
          clear hlt
          go_wp2_with fail
          go_meet
          exact ⟨hrd, hK⟩
  case rest =>
  clear HRD hK
  obtain ⟨hrd, hK⟩ := hcut
  go_wp2_with (first
    | (go_at_call 24; refine (err_any _ r [] 0 hrd).mono ?_; rintro e w31 ⟨rfl, rfl⟩)
    | (go_at_call 22; refine (left_any _ r [] 0 hrd).mono ?_; rintro e w32 ⟨rfl, rfl⟩))
  go_ret
  exact ⟨rfl, hK.below (Nat.le_refl _) (fun _ _ f => f)⟩

end Go.Proofs.Ytfkddmdoepiikaa
