/-
  Contracts of Get, of both.
-/
import Derived.Test.YtfhcmmmgnkinoaaDoorPxG
import Derived.Test.YtfhcmmmgnkinoaaDoorPxJ
namespace Go.Proofs.YtfhcmmmgnkinoaaDoor
open Go.RowKit
set_option linter.unusedVariables false
set_option linter.unusedSimpArgs false
set_option maxRecDepth 100000

def getL : List Pr → Nat → Option Pr
  | [], _ => none
  | p :: t, i => if p.id = i then some p else getL t i
def getV (o : Option Pr) : Value := .tuple #[(o.getD Pr.zero).val, .bool o.isSome]
def GetIs (o : Option Pr) (w : World) (e : Ending) (w' : World) : Prop := e = .returned (getV o) ∧ Kept No w w'
set_option maxHeartbeats 2000000 in
theorem get_any (a : Option Addr) (c : Nat) (L : List Pr) (x : Nat) (w : World) (hr : Row w a (PC L)) (hl : L.length ≤ 100000) :
    Calls Tryd.prog 27 #[.slice a L.length c, .int .u8 x] w (GetIs (getL L x) w) := by
  generalize hR : getL L x = R
  have HR := Lib.hid hR
  clear hR
  go_enter Tryd.func27, Tryd.ntmps27
  go_wp2
  go_loopw [10] (fun i wr => ∃ j : Nat, i = .int .i64 j ∧ j ≤ L.length ∧ Hid (getL (L.drop j) x = R) ∧ Blk wr w.heap.size 55 #[.int .u8 0, .int .u32 0, .string ⟨#[]⟩, .string ⟨#[]⟩] ∧ Kept No w wr) (fun i _ => L.length - (intOf i).toNat)
  case atStart => exact ⟨0, rfl, by omega, Lib.hid (by rw [List.drop_zero]; exact HR.out), Blk.new w _ _, (Kept.refl No w).alloc _⟩
  case round =>
    obtain ⟨j, rfl, hj, HG, hZ, hk⟩ := hrel
    have f0 := hZ.frozen 0
    have f1 := hZ.frozen 1
    have f2 := hZ.frozen 2
    have f3 := hZ.frozen 3
    have z0 := hZ.cell 0
    have z1 := hZ.cell 1
    have z2 := hZ.cell 2
    have z3 := hZ.cell 3
    simp at z0 z1 z2 z3
    have hzl := hZ.lt
    by_cases hlt : j < L.length
    · obtain ⟨b, off, rfl, hb, q0, q1, q2, q3⟩ := (hr.keptNo hk).prop hlt
      have HD := Lib.hid (drop_pr hlt)
      generalize L[j] = p at *
      obtain ⟨id, pn, A, B⟩ := p
      dsimp only at q0 q1 q2 q3
      by_cases he : id = x
      · subst he
        have HE : Hid (R = some ⟨id, pn, A, B⟩) := Lib.hid (by rw [← HG.out, HD.out, getL]; simp)
        go_wp2
        refine bodyPost_ret (v := getV (some ⟨id, pn, A, B⟩)) (by simp [results, Tryd.results27, go_sem, z0, z1, z2, z3, hzl, Pr.val, getV]) rfl ⟨by rw [HE.out], ?_⟩
        exact (hk.set4 (Nat.le_refl _) _ _ _ _).alloc _
      · have HE : Hid (getL (L.drop (j + 1)) x = R) := Lib.hid (by rw [← HG.out, HD.out, getL]; simp [he])
        have heI : ((id : Int) == (x : Int)) = false := by simp; omega
        have heN : (id == x) = false := by simpa using he
        go_wp2
        go_roundw
        case rel => exact ⟨j + 1, by go_num, by omega, HE, hZ.alloc _, hk.alloc _⟩
        case measure => simp [intOf]; omega
    · have HE : Hid (R = none) := Lib.hid (by rw [← HG.out, List.drop_of_length_le (by omega)]; rfl)
      go_wp2
      refine bodyPost_ret (v := getV none) (by simp [results, Tryd.results27, go_sem, z0, z1, z2, z3, hzl, Pr.zero, Pr.val, getV]) rfl ⟨by rw [HE.out], ?_⟩
      exact hk.set4 (Nat.le_refl _) _ _ _ _
set_option maxHeartbeats 2000000 in
theorem rget_any (a : Option Addr) (c : Nat) (L : List Pr) (x : Nat) (w : World) (hr : Row w a (PC L)) (hl : L.length ≤ 100000) :
    Calls Tryd.prog 28 #[.slice a L.length c, .int .u8 x] w (GetIs (getL L x) w) := by
  generalize hR : getL L x = R
  have HR := Lib.hid hR
  clear hR
  go_enter Tryd.func28, Tryd.ntmps28
  go_wp2
  go_loopw [6] (fun i wr => ∃ j : Nat, i = .int .i64 j ∧ j ≤ L.length ∧ Hid (getL (L.drop j) x = R) ∧ Blk wr w.heap.size 58 #[.int .u8 0, .int .u32 0, .string ⟨#[]⟩, .string ⟨#[]⟩] ∧ Kept No w wr) (fun i _ => L.length - (intOf i).toNat)
  case atStart => exact ⟨0, rfl, by omega, Lib.hid (by rw [List.drop_zero]; exact HR.out), Blk.new w _ _, (Kept.refl No w).alloc _⟩
  case round =>
    obtain ⟨j, rfl, hj, HG, hZ, hk⟩ := hrel
    have f0 := hZ.frozen 0
    have f1 := hZ.frozen 1
    have f2 := hZ.frozen 2
    have f3 := hZ.frozen 3
    have z0 := hZ.cell 0
    have z1 := hZ.cell 1
    have z2 := hZ.cell 2
    have z3 := hZ.cell 3
    simp at z0 z1 z2 z3
    have hzl := hZ.lt
    by_cases hlt : j < L.length
    · obtain ⟨b, off, rfl, hb, q0, q1, q2, q3⟩ := (hr.keptNo hk).prop hlt
      have HD := Lib.hid (drop_pr hlt)
      generalize L[j] = p at *
      obtain ⟨id, pn, A, B⟩ := p
      dsimp only at q0 q1 q2 q3
      by_cases he : id = x
      · subst he
        have HE : Hid (R = some ⟨id, pn, A, B⟩) := Lib.hid (by rw [← HG.out, HD.out, getL]; simp)
        go_wp2
        refine bodyPost_ret (v := getV (some ⟨id, pn, A, B⟩)) (by simp [results, Tryd.results28, go_sem, z0, z1, z2, z3, hzl, Pr.val, getV]) rfl ⟨by rw [HE.out], ?_⟩
        exact hk.set4 (Nat.le_refl _) _ _ _ _
      · have HE : Hid (getL (L.drop (j + 1)) x = R) := Lib.hid (by rw [← HG.out, HD.out, getL]; simp [he])
        have heI : ((id : Int) == (x : Int)) = false := by simp; omega
        have heN : (id == x) = false := by simpa using he
        go_wp2
        go_roundw
        case rel => exact ⟨j + 1, by go_num, by omega, HE, hZ, hk⟩
        case measure => simp [intOf]; omega
    · have HE : Hid (R = none) := Lib.hid (by rw [← HG.out, List.drop_of_length_le (by omega)]; rfl)
      go_wp2
      refine bodyPost_ret (v := getV none) (by simp [results, Tryd.results28, go_sem, z0, z1, z2, z3, hzl, Pr.zero, Pr.val, getV]) rfl ⟨by rw [HE.out], ?_⟩
      exact hk.set4 (Nat.le_refl _) _ _ _ _

/-- May a property of the one id stand next behind one of the other? -/
def followsB (k : Int) (x y : Nat) : Bool := decide (x < y) || (decide (x = y) && oftenB y k)
set_option maxHeartbeats 2000000 in
theorem follows_any (k : Int) (x y : Nat) (w : World) (h8 : x < 256) (h9 : y < 256) : Calls Tryd.prog 68 #[.int .i64 k, .int .u8 x, .int .u8 y] w fun e w' => e = .returned (.bool (followsB k x y)) ∧ Kept No w w' := by
  have HO := Lib.hid (fun wx => often_any y k wx h9)
  rcases Nat.lt_trichotomy x y with h | h | h
  · have hR : followsB k x y = true := by simp [followsB, h]
    rw [hR]
    have hI : ((x : Int) < (y : Int)) := by omega
    go_enter Tryd.func68, Tryd.ntmps68
    go_wp2
    go_ret
    exact ⟨rfl, Kept.refl _ _⟩
  · subst h
    have hR : followsB k x x = oftenB x k := by simp [followsB]
    rw [hR]
    generalize oftenB x k = o at *
    go_enter Tryd.func68, Tryd.ntmps68
    go_wp2_with (go_at_call 102; refine (HO.out _).mono ?_; rintro e w1 ⟨rfl, hk⟩)
    go_ret
    exact ⟨rfl, hk⟩
  · have hR : followsB k x y = false := by simp [followsB]; omega
    rw [hR]
    have h1 : decide ((x : Int) < (y : Int)) = false := by simp; omega
    have h2 : ((x : Int) == (y : Int)) = false := by simp; omega
    have h3 : (x == y) = false := by simp; omega
    go_enter Tryd.func68, Tryd.ntmps68
    go_wp2
    go_ret
    refine ⟨?_, Kept.refl _ _⟩
    simp
    omega

end Go.Proofs.YtfhcmmmgnkinoaaDoor
