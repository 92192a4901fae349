/-
  The iterator of props.Each.
-/
import Derived.Test.YtfhcmmmgnkinoaaDoorPxL
import Derived.Test.YtfhcmmmgnkinoaaDoorRng
import Derived.Shelf.Abstract
import Derived.Shelf.RegionOpen
import Derived.OwnWalkIn
import Derived.TacticsInMore
import Derived.LoopNIn
import Derived.LoopIn
namespace Go.Proofs.YtfhcmmmgnkinoaaDoor
open Go.RowKit
attribute [local go_sem] Oper.semAt_some
set_option linter.unusedVariables false
set_option linter.unusedSimpArgs false
set_option maxRecDepth 100000

theorem Rdr.holds2 {w w' : World} {r a b : Nat} {l : List UInt8} {err : Int} (h : Rdr w r l err) (hk : Holds2 a b w w') (ha : a ≤ r) (hb : r < b) : Rdr w' r l err := by
  obtain ⟨p, c, hB, h1, h2, h3, h4, h5, h6⟩ := h
  refine ⟨p, c, (hk.same r ha hb).trans hB, h1, h2, ?_, h4, h5, ?_⟩
  · by_cases hl : l = []
    · subst hl; exact .inl rfl
    · rcases h3 with h3 | ⟨b9, off, hp, hlt, hc⟩
      · exact .inl h3
      · obtain ⟨cs, fz, hx⟩ := h6 b9 off hp hl
        have hbb := hk.bytes b9 cs fz hx
        exact .inr ⟨b9, off, hp, Nat.lt_of_lt_of_le hlt hk.size, fun j u hj => (World.cell?_of_block (w := w) hbb).trans (hc j u hj)⟩
  · intro b9 off hp hl
    obtain ⟨cs, fz, hx⟩ := h6 b9 off hp hl
    exact ⟨cs, fz, (hk.bytes b9 cs fz hx).trans hx⟩
/-- What Each hands out. -/
def seqL (l : List UInt8) : List (Pr × Bool) := (eachL l).1.map (fun p => (p, true)) ++ (if (eachL l).2 then [] else [(Pr.zero, false)])
theorem seqL_nil : seqL [] = [] := rfl
theorem seqL_good {l : List UInt8} (h : nextK l = true) : seqL l = ((nextS l 0).1, true) :: seqL (nextS l 0).2.1 := by
  unfold seqL
  rw [eachL_cons h]
  rfl
theorem seqL_bad {l : List UInt8} (h0 : l ≠ []) (h : nextK l = false) : seqL l = [(Pr.zero, false)] := by
  unfold seqL
  rw [eachL_bad h0 h]
  rfl
def encPB (x : Pr × Bool) : Array Value := #[.agg #[.int .u8 x.1.id, .int .u32 x.1.n, .string x.1.a, .string x.1.b], .bool x.2]
def leftM (r : Nat) (w : World) : Nat := match w.cell? ⟨r, 0, none⟩ with | some (.slice _ n _) => n | _ => 0
theorem leftM_of {w : World} {r : Nat} {l : List UInt8} {e : Int} (h : Rdr w r l e) : leftM r w = l.length := by
  obtain ⟨a, c, h0, _⟩ := h.cells
  unfold leftM
  rw [h0]

set_option maxHeartbeats 4000000 in
theorem each1_seq (l : List UInt8) (Bn : Nat) (a : Option Addr) (c n : Nat) (w : World) (hB : w.cell? ⟨Bn, 0, none⟩ = some (.slice a l.length c)) (hr : Row w a (B8 l)) (hn : a = none → l.length = 0 ∧ c = 0) (hl : l.length ≤ 1000000) :
    SeqR Fence.wide n Tryd.prog 92 #[.pointer (some ⟨Bn, 0, none⟩)] encPB (fun xs => xs = seqL l) (fun pre => pre <+: seqL l) Tabs w := by
  intro l9 J Jx W hW hJ hJG hY h0
  have hkW := Kept.of_below hW
  have hBW : W.cell? ⟨Bn, 0, none⟩ = some (.slice a l.length c) := (hkW.cell (p := ⟨Bn, 0, none⟩) (cell_lt hB) (fun f => f)).trans hB
  have hrW := hr.keptNo hkW
  have hBl := cell_lt hBW
  refine callsIn_of_wp Tryd.func92 rfl trivial ?_ rfl
  simp only [Tryd.ntmps92, List.size_toArray, List.length_cons, List.length_nil, Nat.reduceAdd, Nat.reduceSub, Array.replicate_succ, Array.replicate_zero, List.push_toArray, List.append_toArray, List.nil_append, List.cons_append]
  have HJ := Lib.hid hJ
  have HJG := Lib.hid hJG
  have HY := Lib.hid hY
  have H0 := Lib.hid h0
  clear hJ hJG hY h0 hr hB
  gi_wp2_with fail
  refine ⟨trivial, (fun h => (by cases h)), (callsIn_wide.2 (read_any a c l _ hrW hn (by omega))).mono ?_⟩
  rintro e w1 ⟨r, rfl, hrg, hrd, hk1⟩
  obtain ⟨B, hBe⟩ : ∃ B, B = w1.heap.size := ⟨_, rfl⟩
  have hs1 := hk1.size
  have hrl := hrd.lt
  have hWB : W.heap.size ≤ B := by omega
  have hrB : r < B := by omega
  have hJ0 := HJ.out B [] W w1 hWB (H0.out B hWB) hk1.any
  have hBw : B ≤ w1.heap.size := by omega
  have HMID := Lib.hid (show ∀ k, One r k → Mid W.heap.size B k from fun k e => by have : k = r := e; subst this; exact ⟨hrg, hrB⟩)
  clear hBe hk1 hs1 hrl H0
  gi_wp2_with fail
  gi_loopw [4] (fun _ wr => ∃ (pre : List (Pr × Bool)) (l1 : List UInt8), Hid (seqL l = pre ++ seqL l1) ∧ Rdr wr r l1 0 ∧ J B pre wr ∧ B ≤ wr.heap.size) (fun _ wr => leftM r wr)
  case atStart => exact ⟨[], l, Lib.hid rfl, hrd, hJ0, hBw⟩
  case round =>
    obtain ⟨pre, l1, HS, hrd1, hJ1, hB1⟩ := hrel
    clear hrd hJ0 hBw hBW hrW
    by_cases hnil : l1 = []
    · subst hnil
      gi_wp2_with fail
      refine ⟨trivial, (fun h => (by cases h)), (callsIn_wide.2 (left_any _ r [] 0 hrd1)).mono ?_⟩
      rintro e w2 ⟨rfl, rfl⟩
      gi_wp2
      go_end0
      exact ⟨⟨_, rfl⟩, .inl ⟨B, pre, hWB, by rw [HS.out, seqL_nil, List.append_nil], hJ1⟩⟩
    · have hlp := List.length_pos_iff.2 hnil
      have hlI : (0 : Int) < (l1.length : Int) := by omega
      have cN := next_any wr r l1 hrd1 (HJG.out _ _ _ hJ1)
      rcases hK : nextK l1 with _ | _
      · rw [hK] at cN
        have hq := seqL_bad hnil hK
        have HQ := Lib.hid hq
        have HN : Hid (Calls Tryd.prog 93 #[.pointer (some ⟨r, 0, none⟩)] wr fun e w' => e = .returned (.tuple #[.agg #[.int .u8 0, .int .u32 0, .string ⟨#[]⟩, .string ⟨#[]⟩], .bool false]) ∧ Kept (One r) wr w') := Lib.hid (cN.mono fun e w' ⟨h1, h2⟩ => ⟨by rw [h1]; rfl, h2.kept⟩)
        clear cN hK hq
        gi_wp2_with fail
        refine ⟨trivial, (fun h => (by cases h)), (callsIn_wide.2 (left_any _ r l1 0 hrd1)).mono ?_⟩
        rintro e w2 ⟨rfl, rfl⟩
        gi_wp2_with fail
        refine ⟨trivial, (fun h => (by cases h)), (callsIn_wide.2 HN.out).mono ?_⟩
        rintro e w3 ⟨rfl, hk3⟩
        have hk4 := (hk3.mono (fun k _ e => HMID.out k e)).alloc (.cells #[.int .u8 0, .int .u32 0, .string ⟨#[]⟩, .string ⟨#[]⟩] 55)
        have hJ4 := HJ.out B pre _ _ hWB hJ1 hk4
        obtain ⟨fn, tmps, assign, body, hy, hR⟩ := HY.out B pre (Pr.zero, false) _ (by rw [HS.out, HQ.out]; exact List.prefix_refl _) hWB (by have := hk4.size; omega) hJ4
        change (Instr.yield l9 #[.agg #[.int .u8 0, .int .u32 0, .string ⟨#[]⟩, .string ⟨#[]⟩], .bool false]).run Tryd.prog _ = _ at hy
        gi_wp2_with fail
        refine ⟨(fun h => (by cases h)), hR.mono ?_⟩
        rintro e W3 (⟨rfl, hJ3, hh3⟩ | ⟨rfl, hJx3⟩)
        · gi_wp2
          refine bodyPost_ret (results_none rfl _ _ _) rfl ?_
          exact ⟨⟨_, rfl⟩, .inl ⟨B, pre ++ [(Pr.zero, false)], hWB, by rw [HS.out, HQ.out], hJ3⟩⟩
        · gi_wp2
          refine bodyPost_ret (results_none rfl _ _ _) rfl ?_
          exact ⟨⟨_, rfl⟩, .inr ⟨B, pre ++ [(Pr.zero, false)], hWB, by rw [HS.out, HQ.out]; exact List.prefix_refl _, hJx3⟩⟩
      · rw [hK] at cN
        have hq := seqL_good hK
        have hlt := next_lt hK
        have hkk : (nextS l1 0).2.2 = 0 := by
          have h9 := hK
          unfold nextK at h9
          rw [Bool.and_eq_true] at h9
          exact of_decide_eq_true h9.1
        generalize nextS l1 0 = SS at *
        obtain ⟨⟨id, pn, A, B9⟩, l2, e2⟩ := SS
        dsimp only at hq hlt hkk
        subst hkk
        have HQ := Lib.hid hq
        have HN : Hid (Calls Tryd.prog 93 #[.pointer (some ⟨r, 0, none⟩)] wr fun e w' => e = .returned (.tuple #[.agg #[.int .u8 id, .int .u32 pn, .string A, .string B9], .bool true]) ∧ After wr w' r l2 0) := Lib.hid (cN.mono fun e w' ⟨h1, h2⟩ => ⟨by rw [h1]; rfl, h2⟩)
        clear cN hK hq
        gi_wp2_with fail
        refine ⟨trivial, (fun h => (by cases h)), (callsIn_wide.2 (left_any _ r l1 0 hrd1)).mono ?_⟩
        rintro e w2 ⟨rfl, rfl⟩
        gi_wp2_with fail
        refine ⟨trivial, (fun h => (by cases h)), (callsIn_wide.2 HN.out).mono ?_⟩
        rintro e w3 ⟨rfl, ha3⟩
        have hk4 := (ha3.kept.mono (fun k _ e => HMID.out k e)).alloc (.cells #[.int .u8 id, .int .u32 pn, .string A, .string B9] 55)
        have hrd4 := ha3.rdr.keptNo ((Kept.refl No w3).alloc (.cells #[.int .u8 id, .int .u32 pn, .string A, .string B9] 55))
        have hJ4 := HJ.out B pre _ _ hWB hJ1 hk4
        have hB4 : B ≤ (w3.alloc (.cells #[.int .u8 id, .int .u32 pn, .string A, .string B9] 55)).heap.size := by have := hk4.size; omega
        obtain ⟨fn, tmps, assign, body, hy, hR⟩ := HY.out B pre (⟨id, pn, A, B9⟩, true) _ (by rw [HS.out, HQ.out]; exact ⟨seqL l2, by simp⟩) hWB hB4 hJ4
        simp only [encPB] at hy
        gi_wp2_with fail
        refine ⟨(fun h => (by cases h)), hR.mono ?_⟩
        rintro e W3 (⟨rfl, hJ3, hh3⟩ | ⟨rfl, hJx3⟩)
        · have hrd5 := hrd4.holds2 hh3 hrg hrB
          have hB5 := hh3.size
          have hm1 := Lib.hid (leftM_of hrd5)
          have hm2 := Lib.hid (leftM_of hrd1)
          gi_wp2
          go_roundw
          case rel => exact ⟨pre ++ [(⟨id, pn, A, B9⟩, true)], l2, Lib.hid (by rw [HS.out, HQ.out]; simp), hrd5, hJ3, by omega⟩
          case measure => rw [hm1.out, hm2.out]; exact hlt
        · gi_wp2
          refine bodyPost_ret (results_none rfl _ _ _) rfl ?_
          exact ⟨⟨_, rfl⟩, .inr ⟨B, pre ++ [(⟨id, pn, A, B9⟩, true)], hWB, by rw [HS.out, HQ.out]; exact ⟨seqL l2, by simp⟩, hJx3⟩⟩

end Go.Proofs.YtfhcmmmgnkinoaaDoor
