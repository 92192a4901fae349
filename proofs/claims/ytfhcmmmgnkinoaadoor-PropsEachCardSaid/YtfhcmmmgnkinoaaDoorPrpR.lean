/-
  Contracts of package prop: number, Right; and of the document's Right.
-/
import Derived.Test.YtfhcmmmgnkinoaaDoorPrp
import Derived.Test.YtfhcmmmgnkinoaaDoorTextR
namespace Go.Proofs.YtfhcmmmgnkinoaaDoor
open Go.RowKit
set_option linter.unusedVariables false
set_option linter.unusedSimpArgs false

def noTexts (a b : ByteArray) : Bool := a.toList.isEmpty && b.toList.isEmpty
/-- A property's value. -/
def prop4 (id n : Nat) (a b : ByteArray) : Value := .agg #[.int .u8 id, .int .u32 n, .string a, .string b]
/-- A number up to most, and nothing else. -/
def numB (n most : Nat) (a b : ByteArray) : Bool := decide (n ≤ most) && noTexts a b
theorem dec_cast (n m : Nat) : decide ((n : Int) ≤ (m : Int)) = decide (n ≤ m) := by
  by_cases h : n ≤ m
  · rw [decide_eq_true h, decide_eq_true (by omega)]
  · rw [decide_eq_false h, decide_eq_false (by omega)]
set_option maxRecDepth 100000 in
set_option maxHeartbeats 1000000 in
theorem number_any (id n most : Nat) (a b : ByteArray) (w : World) :
    Calls Tryd.prog 112 #[.agg #[.int .u8 id, .int .u32 n, .string a, .string b], .int .u32 most] w fun e w' => e = .returned (.bool (numB n most a b)) ∧ Kept No w w' := by
  unfold numB noTexts
  generalize hB : (decide (n ≤ most) && (a.toList.isEmpty && b.toList.isEmpty)) = B
  by_cases h1 : n ≤ most
  · have h1z : (n : Int) ≤ most := by omega
    rcases ha : a.toList.isEmpty with _ | _
    · have HB : Hid (B = false) := Lib.hid (by rw [← hB, ha]; simp)
      clear hB
      go_enter Tryd.func112, Tryd.ntmps112
      go_wp2
      go_ret
      exact ⟨by rw [HB.out]; rfl, (Kept.refl No w).alloc _⟩
    · have HB : Hid (B = b.toList.isEmpty) := Lib.hid (by rw [← hB, ha, decide_eq_true h1]; simp)
      clear hB
      go_enter Tryd.func112, Tryd.ntmps112
      go_wp2
      go_ret
      exact ⟨by rw [HB.out]; rfl, (Kept.refl No w).alloc _⟩
  · have h1z : (most : Int) < n := by omega
    have hd : decide ((n : Int) ≤ (most : Int)) = false := by simp; omega
    have HB : Hid (B = false) := Lib.hid (by rw [← hB, decide_eq_false h1]; simp)
    clear hB
    go_enter Tryd.func112, Tryd.ntmps112
    go_wp2
    go_ret
    exact ⟨by rw [HB.out]; rfl, (Kept.refl No w).alloc _⟩

/-- Is a property one of its type? -/
def rightT (t n : Nat) (a b : ByteArray) : Bool :=
  if t = 1 then numB n 255 a b
  else if t = 2 then numB n 65535 a b
  else if t = 3 then numB n 4294967295 a b
  else if t = 4 then numB n 268435455 a b
  else if t = 5 then decide (n = 0) && (okText a && b.toList.isEmpty)
  else if t = 6 then decide (n = 0) && (decide (a.size ≤ 65535) && b.toList.isEmpty)
  else if t = 7 then decide (n = 0) && (okText a && okText b)
  else false
def rightB (id n : Nat) (a b : ByteArray) : Bool := rightT (typL id) n a b
theorem box_cell {w w' : World} {t : TypeId} {cs : Array Value} (hk : Kept No (w.alloc (.cells cs t)) w') (i : Nat) : w'.cell? ⟨w.heap.size, i, none⟩ = cs[i]? :=
  ((Blk.new w t cs).kept hk (fun f => f)).cell i
theorem box_cell2 {w w' w'' : World} {t : TypeId} {cs : Array Value} (hk : Kept No (w.alloc (.cells cs t)) w') (hk2 : Kept No w' w'') (i : Nat) : w''.cell? ⟨w.heap.size, i, none⟩ = cs[i]? :=
  box_cell (hk.trans hk2) i

set_option maxRecDepth 100000 in
set_option maxHeartbeats 4000000 in
theorem pright_any (id n : Nat) (a b : ByteArray) (w : World) (hT : Tabs w) (h8 : id < 256) (hn : n < 4294967296) (ha : a.size ≤ 9223372036854775807) (hb : b.size ≤ 9223372036854775807) :
    Calls Tryd.prog 79 #[.agg #[.int .u8 id, .int .u32 n, .string a, .string b]] w fun e w' => e = .returned (.bool (rightB id n a b)) ∧ Kept No w w' := by
  have cT := type_any id
  have ht := typL_le id
  unfold rightB
  generalize typL id = t at *
  have HT := Lib.hid cT
  clear cT
  have HN := Lib.hid (fun most wx => number_any id n most a b wx)
  rcases (show t = 0 ∨ t = 1 ∨ t = 2 ∨ t = 3 ∨ t = 4 ∨ t = 5 ∨ t = 6 ∨ t = 7 from by omega) with rfl | rfl | rfl | rfl | rfl | rfl | rfl | rfl
  · go_enter Tryd.func79, Tryd.ntmps79
    go_wp2_with (go_at_call 82; refine (HT.out _).mono ?_; rintro e w1 ⟨rfl, rfl⟩)
    go_ret
    exact ⟨rfl, (Kept.refl No w).alloc _⟩
  · have HM := Lib.hid (fun wx => (HN.out 255 wx))
    generalize hR : rightT 1 n a b = R
    have HR := Lib.hid hR
    clear hR
    go_enter Tryd.func79, Tryd.ntmps79
    go_wp2_with (first
      | (go_at_call 82; refine (HT.out _).mono ?_; rintro e w1 ⟨rfl, rfl⟩)
      | (go_at_call 112; refine (HM.out _).mono ?_; rintro e w2 ⟨rfl, hk2⟩))
    go_ret
    exact ⟨by rw [← HR.out]; rfl, ((Kept.refl No w).alloc _).trans hk2⟩
  · have HM := Lib.hid (fun wx => (HN.out 65535 wx))
    generalize hR : rightT 2 n a b = R
    have HR := Lib.hid hR
    clear hR
    go_enter Tryd.func79, Tryd.ntmps79
    go_wp2_with (first
      | (go_at_call 82; refine (HT.out _).mono ?_; rintro e w1 ⟨rfl, rfl⟩)
      | (go_at_call 112; refine (HM.out _).mono ?_; rintro e w2 ⟨rfl, hk2⟩))
    go_ret
    exact ⟨by rw [← HR.out]; rfl, ((Kept.refl No w).alloc _).trans hk2⟩
  · have HM := Lib.hid (fun wx => (HN.out 4294967295 wx))
    generalize hR : rightT 3 n a b = R
    have HR := Lib.hid hR
    clear hR
    go_enter Tryd.func79, Tryd.ntmps79
    go_wp2_with (first
      | (go_at_call 82; refine (HT.out _).mono ?_; rintro e w1 ⟨rfl, rfl⟩)
      | (go_at_call 112; refine (HM.out _).mono ?_; rintro e w2 ⟨rfl, hk2⟩))
    go_ret
    exact ⟨by rw [← HR.out]; rfl, ((Kept.refl No w).alloc _).trans hk2⟩
  · have HM := Lib.hid (fun wx => (HN.out 268435455 wx))
    generalize hR : rightT 4 n a b = R
    have HR := Lib.hid hR
    clear hR
    go_enter Tryd.func79, Tryd.ntmps79
    go_wp2_with (first
      | (go_at_call 82; refine (HT.out _).mono ?_; rintro e w1 ⟨rfl, rfl⟩)
      | (go_at_call 112; refine (HM.out _).mono ?_; rintro e w2 ⟨rfl, hk2⟩))
    go_ret
    exact ⟨by rw [← HR.out]; rfl, ((Kept.refl No w).alloc _).trans hk2⟩
  · generalize hR : rightT 5 n a b = R
    by_cases h0 : n = 0
    · subst h0
      have cO := fun wx hT => right_any a wx ha hT
      rcases hO : okText a with _ | _
      · rw [hO] at cO
        have HO := Lib.hid cO
        have HR : Hid (R = false) := Lib.hid (by rw [← hR]; unfold rightT; simp [hO])
        clear hR cO hO
        go_enter Tryd.func79, Tryd.ntmps79
        go_wp2_with (first
          | (go_at_call 82; refine (HT.out _).mono ?_; rintro e w1 ⟨rfl, rfl⟩)
          | (go_at_call 113; refine (HO.out _ (hT.kept ((Kept.refl No w).alloc _))).mono ?_; rintro e w2 ⟨rfl, hk2⟩; have hc3 := box_cell hk2 3; simp at hc3))
        go_ret
        exact ⟨by rw [HR.out]; rfl, ((Kept.refl No w).alloc _).trans hk2⟩
      · rw [hO] at cO
        have HO := Lib.hid cO
        have HR : Hid (R = b.toList.isEmpty) := Lib.hid (by rw [← hR]; unfold rightT; simp [hO])
        clear hR cO hO
        go_enter Tryd.func79, Tryd.ntmps79
        go_wp2_with (first
          | (go_at_call 82; refine (HT.out _).mono ?_; rintro e w1 ⟨rfl, rfl⟩)
          | (go_at_call 113; refine (HO.out _ (hT.kept ((Kept.refl No w).alloc _))).mono ?_; rintro e w2 ⟨rfl, hk2⟩; have hc3 := box_cell hk2 3; simp at hc3))
        go_ret
        exact ⟨by rw [HR.out]; rfl, ((Kept.refl No w).alloc _).trans hk2⟩
    · have HR : Hid (R = false) := Lib.hid (by rw [← hR]; unfold rightT; simp [h0])
      have hz : ((n : Int) == 0) = false := by simp; omega
      clear hR h0
      go_enter Tryd.func79, Tryd.ntmps79
      go_wp2_with (go_at_call 82; refine (HT.out _).mono ?_; rintro e w1 ⟨rfl, rfl⟩)
      go_ret
      exact ⟨by rw [HR.out]; rfl, (Kept.refl No w).alloc _⟩
  · generalize hR : rightT 6 n a b = R
    by_cases h0 : n = 0
    · subst h0
      by_cases hs : a.size ≤ 65535
      · have HR : Hid (R = b.toList.isEmpty) := Lib.hid (by rw [← hR]; unfold rightT; simp [hs])
        have hsz : (a.size : Int) ≤ 65535 := by omega
        clear hR
        go_enter Tryd.func79, Tryd.ntmps79
        go_wp2_with (go_at_call 82; refine (HT.out _).mono ?_; rintro e w1 ⟨rfl, rfl⟩)
        go_ret
        exact ⟨by rw [HR.out]; rfl, (Kept.refl No w).alloc _⟩
      · have HR : Hid (R = false) := Lib.hid (by rw [← hR]; unfold rightT; simp [hs])
        have hsz : (65535 : Int) < a.size := by omega
        have hd : decide ((a.size : Int) ≤ 65535) = false := by simp; omega
        clear hR
        go_enter Tryd.func79, Tryd.ntmps79
        go_wp2_with (go_at_call 82; refine (HT.out _).mono ?_; rintro e w1 ⟨rfl, rfl⟩)
        go_ret
        exact ⟨by rw [HR.out]; rfl, (Kept.refl No w).alloc _⟩
    · have HR : Hid (R = false) := Lib.hid (by rw [← hR]; unfold rightT; simp [h0])
      have hz : ((n : Int) == 0) = false := by simp; omega
      clear hR h0
      go_enter Tryd.func79, Tryd.ntmps79
      go_wp2_with (go_at_call 82; refine (HT.out _).mono ?_; rintro e w1 ⟨rfl, rfl⟩)
      go_ret
      exact ⟨by rw [HR.out]; rfl, (Kept.refl No w).alloc _⟩
  · generalize hR : rightT 7 n a b = R
    by_cases h0 : n = 0
    · subst h0
      have cO := fun wx hT => right_any a wx ha hT
      have cP := Lib.hid (fun wx hT => right_any b wx hb hT)
      rcases hO : okText a with _ | _
      · rw [hO] at cO
        have HO := Lib.hid cO
        have HR : Hid (R = false) := Lib.hid (by rw [← hR]; unfold rightT; simp [hO])
        clear hR cO hO
        go_enter Tryd.func79, Tryd.ntmps79
        go_wp2_with (first
          | (go_at_call 82; refine (HT.out _).mono ?_; rintro e w1 ⟨rfl, rfl⟩)
          | (go_at_call 113; refine (HO.out _ (hT.kept ((Kept.refl No w).alloc _))).mono ?_; rintro e w2 ⟨rfl, hk2⟩; have hc3 := box_cell hk2 3; simp at hc3))
        go_ret
        exact ⟨by rw [HR.out]; rfl, ((Kept.refl No w).alloc _).trans hk2⟩
      · rw [hO] at cO
        have HO := Lib.hid cO
        have HR : Hid (R = okText b) := Lib.hid (by rw [← hR]; unfold rightT; simp [hO])
        clear hR cO hO
        generalize okText b = B at *
        go_enter Tryd.func79, Tryd.ntmps79
        go_wp2_with (first
          | (go_at_call 82; refine (HT.out _).mono ?_; rintro e w1 ⟨rfl, rfl⟩)
          | (go_at_call 113; with_reducible refine (HO.out _ (hT.kept ((Kept.refl No w).alloc _))).mono ?_; rintro e w2 ⟨rfl, hk2⟩; have hc3 := box_cell hk2 3; simp at hc3)
          | (go_at_call 113; refine (cP.out _ ((hT.kept ((Kept.refl No w).alloc _)).kept hk2)).mono ?_; rintro e w3 ⟨rfl, hk3⟩))
        go_ret
        exact ⟨by rw [HR.out]; rfl, (((Kept.refl No w).alloc _).trans hk2).trans hk3⟩
    · have HR : Hid (R = false) := Lib.hid (by rw [← hR]; unfold rightT; simp [h0])
      have hz : ((n : Int) == 0) = false := by simp; omega
      clear hR h0
      go_enter Tryd.func79, Tryd.ntmps79
      go_wp2_with (go_at_call 82; refine (HT.out _).mono ?_; rintro e w1 ⟨rfl, rfl⟩)
      go_ret
      exact ⟨by rw [HR.out]; rfl, (Kept.refl No w).alloc _⟩

end Go.Proofs.YtfhcmmmgnkinoaaDoor
