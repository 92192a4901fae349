/-
  Contracts of package text (Right alone), and what the document tells of a text.
-/
import Derived.Test.YtlgbljohhnhhkaaDoorText
import Derived.Test.YtlgbljohhnhhkaaDoorShelf
namespace Go.Proofs.YtlgbljohhnhhkaaDoor
open Go.RowKit
set_option linter.unusedVariables false
set_option linter.unusedSimpArgs false

theorem Kept.of_below {w w' : World} (h : Below w.heap.size w w') : Kept No w w' := ⟨h.os, h.tape, h.output, h.size, fun k hk _ => h.block k hk⟩
def Tabs (w : World) : Prop := Lib.Utf8Tabs (Tryd.laysValid_ren.g 3) (Tryd.laysValid_ren.g 4) w
theorem cell_lt {w : World} {b o : Nat} {v : Value} (h : w.cell? ⟨b, o, none⟩ = some v) : b < w.heap.size := by
  rcases Nat.lt_or_ge b w.heap.size with hlt | hge
  · exact hlt
  · simp [World.cell?, Array.getElem?_eq_none hge] at h
theorem Tabs.kept {w w' : World} (h : Tabs w) (hk : Kept No w w') : Tabs w' :=
  ⟨fun c hc => (hk.cell (p := ⟨_, c, none⟩) (cell_lt (h.1 c hc)) (fun f => f)).trans (h.1 c hc),
   fun i hi => ⟨(hk.cell (p := ⟨_, 2 * i, none⟩) (cell_lt (h.2 i hi).1) (fun f => f)).trans (h.2 i hi).1, (hk.cell (p := ⟨_, 2 * i + 1, none⟩) (cell_lt (h.2 i hi).2) (fun f => f)).trans (h.2 i hi).2⟩⟩

theorem indexByte_lt (l : List UInt8) (c : UInt8) : (Lib.indexByte l c < 0) ↔ c ∉ l := by
  have key : ∀ l : List UInt8, -1 ≤ Lib.indexByte l c ∧ ((Lib.indexByte l c = -1) ↔ c ∉ l) := by
    intro l
    induction l with
    | nil => simp [Lib.indexByte]
    | cons b t ih =>
      unfold Lib.indexByte
      by_cases hb : b = c
      · simp [hb]
      · rw [if_neg (by simpa using hb)]
        by_cases ht : Lib.indexByte t c = -1
        · rw [if_pos (by simpa using ht)]
          exact ⟨by omega, by have := ih.2.1 ht; simp [this]; exact fun e => hb e.symm⟩
        · rw [if_neg (by simpa using ht)]
          refine ⟨by have := ih.1; omega, ?_⟩
          have h2 : c ∈ t := by
            rcases Decidable.em (c ∈ t) with h | h
            · exact h
            · exact absurd (ih.2.2 h) ht
          have h3 := ih.1
          constructor
          · intro e; omega
          · intro e; simp [h2] at e
  have := key l
  constructor
  · intro h; exact this.2.1 (by omega)
  · intro h; have := this.2.2 h; omega

/-- Right: no longer than may be, and all of it signs. -/
def okText (s : ByteArray) : Bool := decide (s.size ≤ 65535) && isText s.data.toList

set_option maxRecDepth 100000 in
set_option maxHeartbeats 1000000 in
theorem right_any (s : ByteArray) (w : World) (hs : s.size ≤ 9223372036854775807) (hT : Tabs w) :
    Calls Tryd.prog 21 #[.string s] w fun e w' => e = .returned (.bool (okText s)) ∧ Kept No w w' := by
  have cV : Calls Tryd.prog 30 #[.string s] w _ := Any.utf8_ValidString Tryd.laysValid s w hs hT
  have cI := Tryd.strings_IndexByte s 0
  have hz : (0 : Int).toNat.toUInt8 = 0 := rfl
  have hI := indexByte_lt s.data.toList 0
  rw [hz] at cI
  have hV : Lib.validD s.data.toList = true ∨ Lib.validD s.data.toList = false := by cases Lib.validD s.data.toList <;> simp
  have hC : s.data.toList.contains 0 = decide (0 ∈ s.data.toList) := by rw [Bool.eq_iff_iff, List.contains_iff_mem]; simp
  unfold okText isText
  rw [hC]
  generalize Lib.validD s.data.toList = V at *
  generalize Lib.indexByte s.data.toList 0 = I at *
  have HV := Lib.hid cV
  have HI := Lib.hid cI
  clear cV cI hz hC
  by_cases h0 : s.size ≤ 65535
  · have h0z : (s.size : Int) ≤ 65535 := by omega
    rw [decide_eq_true h0]
    rcases hV with rfl | rfl
    · by_cases hi : I < 0
      · have hm : ¬ (0 ∈ s.data.toList) := hI.1 hi
        rw [decide_eq_false hm]
        clear hI hm h0
        go_enter Tryd.func21, Tryd.ntmps21
        go_wp2_with (first
          | (go_at_call 30; refine HV.out.mono ?_; rintro e w1 ⟨rfl, hb⟩)
          | (go_at_call 31; refine (HI.out _).mono ?_; rintro e w2 ⟨rfl, rfl⟩))
        go_ret
        exact ⟨rfl, .of_below hb⟩
      · have hm : 0 ∈ s.data.toList := Decidable.of_not_not fun h => hi (hI.2 h)
        rw [decide_eq_true hm]
        have hi' : 0 ≤ I := by omega
        have hd : decide (I < 0) = false := decide_eq_false hi
        clear hI hm h0 hi
        go_enter Tryd.func21, Tryd.ntmps21
        go_wp2_with (first
          | (go_at_call 30; refine HV.out.mono ?_; rintro e w1 ⟨rfl, hb⟩)
          | (go_at_call 31; refine (HI.out _).mono ?_; rintro e w2 ⟨rfl, rfl⟩))
        go_ret
        exact ⟨by first | rfl | (show Ending.returned (.bool (decide (I < 0))) = _; rw [hd]; rfl), .of_below hb⟩
    · clear hI h0
      go_enter Tryd.func21, Tryd.ntmps21
      go_wp2_with (first
        | (go_at_call 30; refine HV.out.mono ?_; rintro e w1 ⟨rfl, hb⟩))
      go_ret
      exact ⟨rfl, .of_below hb⟩
  · have h0z : (65535 : Int) < s.size := by omega
    rw [decide_eq_false h0]
    clear hI h0 hV
    go_enter Tryd.func21, Tryd.ntmps21
    go_wp2
    go_ret
    exact ⟨rfl, Kept.refl _ _⟩

/-- How many signs a text has; 0: it is none. -/
def cntText (s : ByteArray) : Nat := if okText s then Lib.runeCountL s.data.toList else 0

/-- The document's count: -1 where it is no text. -/
def refRunes (s : ByteArray) : Int := if okText s then (Lib.runeCountL s.data.toList : Nat) else -1

theorem sgAt_facts (s : ByteArray) (k : Nat) (h : k < s.size) (hz : sgAt s k ≠ 0) : 1 ≤ sgAt s k ∧ k + sgAt s k ≤ s.size := by
  have := sgL_facts (s.data.toList.drop k) (by intro h0; have := congrArg List.length h0; rw [List.length_drop, sz_list] at this; simp at this; omega) hz
  rw [List.length_drop, sz_list] at this
  unfold sgAt at *
  omega

set_option maxRecDepth 100000 in
set_option maxHeartbeats 1000000 in
theorem refRunes_any (s : ByteArray) (w : World) (hs : s.size ≤ 9223372036854775807) :
    Calls Tryd.prog 33 #[.string s] w fun e w' => e = .returned (.int .i64 (refRunes s)) ∧ w = w' := by
  by_cases h0 : s.size ≤ 65535
  · have hR : refRunes s = match cntL s.size s.data.toList with | some n => (n : Int) | none => -1 := by
      rw [cntL_eq _ _ (by rw [sz_list]; omega)]
      unfold refRunes okText
      rw [decide_eq_true h0, Bool.true_and]
      split <;> simp_all
    generalize hX : cntL s.size s.data.toList = X at hR
    have HX := Lib.hid hX
    have HR := Lib.hid hR
    have h0z : (s.size : Int) ≤ 65535 := by omega
    clear hX hR
    go_enter Tryd.func33, Tryd.ntmps33
    go_wp2
    go_loop [3, 4] (fun n i => ∃ k c f : Nat, k ≤ s.size ∧ i = .int .i64 k ∧ n = .int .i64 c ∧ c ≤ k ∧ s.size ≤ k + f ∧ (cntL f (s.data.toList.drop k)).map (· + c) = X) (fun _ i => s.size - (intOf i).toNat)
    case atStart => exact ⟨0, 0, s.size, by omega, rfl, rfl, by omega, by omega, by rw [List.drop_zero, HX.out]; cases X <;> rfl⟩
    case round =>
      obtain ⟨k, c, f, hk, rfl, rfl, hck, hf, hcnt⟩ := hrel
      have HCN := Lib.hid hcnt
      clear hcnt HX
      by_cases hlt : k < s.size
      · have hne : s.data.toList.drop k ≠ [] := by intro hx; have := congrArg List.length hx; rw [List.length_drop, sz_list] at this; simp at this; omega
        obtain ⟨f', rfl⟩ : ∃ f', f = f' + 1 := ⟨f - 1, by omega⟩
        have hcn := HCN.out
        rw [cntL, if_neg hne] at hcn
        have hfac := sgAt_facts s k hlt
        have hsgn := sign_any s k w hlt h0
        have hsg : sgL (s.data.toList.drop k) = sgAt s k := rfl
        rw [hsg] at hcn
        have hltI : (k : Int) < s.size := by omega
        have HS := Lib.hid hsgn
        have HF := Lib.hid hfac
        have HCN2 := Lib.hid hcn
        clear hsgn hsg HCN hcn hne hfac
        generalize sgAt s k = z at *
        by_cases hz : z = 0
        · subst hz
          have hcn := HCN2.out
          rw [if_pos rfl] at hcn
          have HX := Lib.hid hcn
          clear hcn HCN2 HF
          go_wp2_with (go_at_call 40; refine HS.out.mono ?_; rintro e w1 ⟨⟨nn, rfl⟩, rfl⟩)
          go_ret
          exact ⟨by rw [HR.out, ← HX.out]; rfl, rfl⟩
        · have hcn := HCN2.out
          rw [if_neg hz] at hcn
          have HX := Lib.hid hcn
          have hf1 := (HF.out hz).1
          have hf2 := (HF.out hz).2
          have hzb : ((z : Int) == 0) = false := by simp; omega
          clear hcn HCN2 HF hz
          go_wp2_with (go_at_call 40; refine HS.out.mono ?_; rintro e w1 ⟨⟨nn, rfl⟩, rfl⟩)
          go_round
          case rel => exact ⟨k + z, c + 1, f', by omega, by go_num, by go_num, by omega, by omega, by rw [← HX.out, List.drop_drop]; cases cntL f' (s.data.toList.drop (k + z)) <;> simp [Nat.add_comm, Nat.add_left_comm]⟩
          case measure => simp [intOf]; omega
      · have hge : (s.size : Int) ≤ k := by omega
        have hX : X = some c := by
          rw [← HCN.out, List.drop_eq_nil_of_le (by rw [sz_list]; omega)]
          cases f <;> simp [cntL]
        have HX := Lib.hid hX
        clear hX HCN
        go_wp2
        go_ret
        exact ⟨by rw [HR.out, HX.out]; rfl, rfl⟩
  · have h0z : (65535 : Int) < s.size := by omega
    have hR : refRunes s = -1 := by unfold refRunes okText; rw [decide_eq_false h0]; simp
    have HR := Lib.hid hR
    clear hR h0
    go_enter Tryd.func33, Tryd.ntmps33
    go_wp2
    go_ret
    exact ⟨by rw [HR.out]; rfl, rfl⟩

theorem refRight_any (s : ByteArray) (w : World) (hs : s.size ≤ 9223372036854775807) :
    Calls Tryd.prog 23 #[.string s] w fun e w' => e = .returned (.bool (okText s)) ∧ w = w' := by
  have cR := refRunes_any s w hs
  have hd : okText s = decide (0 ≤ refRunes s) := by unfold refRunes; cases okText s <;> simp
  rw [hd]
  generalize refRunes s = X at *
  have HR := Lib.hid cR
  clear cR hd
  by_cases h : 0 ≤ X
  · rw [decide_eq_true h]
    go_enter Tryd.func23, Tryd.ntmps23
    go_wp2_with (go_at_call 33; refine HR.out.mono ?_; rintro e w1 ⟨rfl, rfl⟩)
    go_ret
    exact ⟨rfl, rfl⟩
  · rw [decide_eq_false h]
    have h' : X < 0 := by omega
    have hd : decide (0 ≤ X) = false := decide_eq_false h
    go_enter Tryd.func23, Tryd.ntmps23
    go_wp2_with (go_at_call 33; refine HR.out.mono ?_; rintro e w1 ⟨rfl, rfl⟩)
    go_ret
    exact ⟨by first | rfl | (show Ending.returned (.bool (decide (0 ≤ X))) = _; rw [hd]), rfl⟩

end Go.Proofs.YtlgbljohhnhhkaaDoor
