/-
  Contracts of props.length, Put, Size.
-/
import Derived.Test.YtfhcmmmgnkinoaaDoorPxF
namespace Go.Proofs.YtfhcmmmgnkinoaaDoor
open Go.RowKit
set_option linter.unusedVariables false
set_option linter.unusedSimpArgs false
set_option maxRecDepth 100000

def Pr.ok (p : Pr) : Bool := rightB p.id p.n p.a p.b
/-- What comes in is a property. -/
structure Pr.wf' (p : Pr) : Prop where
  hid : p.id < 256
  hn : p.n < 4294967296
  ha : p.a.size ≤ 9223372036854
  hb : p.b.size ≤ 9223372036854
theorem size_of_empty {a : ByteArray} (h : a.toList.isEmpty = true) : a.size = 0 := by
  rw [Lib.toList_data] at h
  have : a.data.toList = [] := by simpa using h
  rw [← sz_list, this]; rfl
theorem num_facts {n m : Nat} {a b : ByteArray} (h : numB n m a b = true) : n ≤ m ∧ a.size = 0 ∧ b.size = 0 := by
  unfold numB noTexts at h
  rw [Bool.and_eq_true, Bool.and_eq_true] at h
  exact ⟨of_decide_eq_true h.1, size_of_empty h.2.1, size_of_empty h.2.2⟩
theorem fits_of {id n : Nat} {a b : ByteArray} (h8 : id < 256) (hn : n < 4294967296) (h : rightB id n a b = true) : Fits id n a b ∧ (typL id = 4 → n ≤ 268435455) := by
  have ht := typL_le id
  have key : 1 ≤ typL id ∧ a.size ≤ 65535 ∧ b.size ≤ 65535 ∧ (typL id = 4 → n ≤ 268435455) := by
    unfold rightB at h
    generalize typL id = t at *
    rcases (show t = 0 ∨ t = 1 ∨ t = 2 ∨ t = 3 ∨ t = 4 ∨ t = 5 ∨ t = 6 ∨ t = 7 from by omega) with rfl | rfl | rfl | rfl | rfl | rfl | rfl | rfl
    · exact absurd h (by simp [rightT])
    · have := num_facts (m := 255) h; omega
    · have := num_facts (m := 65535) h; omega
    · have := num_facts (m := 4294967295) h; omega
    · have := num_facts (m := 268435455) h; omega
    · have h' : (decide (n = 0) && (okText a && b.toList.isEmpty)) = true := h
      rw [Bool.and_eq_true, Bool.and_eq_true] at h'
      have h1 := okText_size h'.2.1
      have h2 := size_of_empty h'.2.2
      omega
    · have h' : (decide (n = 0) && (decide (a.size ≤ 65535) && b.toList.isEmpty)) = true := h
      rw [Bool.and_eq_true, Bool.and_eq_true] at h'
      have h1 := of_decide_eq_true h'.2.1
      have h2 := size_of_empty h'.2.2
      omega
    · have h' : (decide (n = 0) && (okText a && okText b)) = true := h
      rw [Bool.and_eq_true, Bool.and_eq_true] at h'
      have h1 := okText_size h'.2.1
      have h2 := okText_size h'.2.2
      omega
  exact ⟨⟨h8, hn, key.2.1, key.2.2.1, key.1⟩, key.2.2.2⟩
theorem varL_pos {n : Nat} (h : n ≤ 268435455) : 1 ≤ (varL n).length := by
  unfold varL
  rw [if_pos h, var7]
  split <;> simp
theorem szP_le {id n : Nat} {a b : ByteArray} (h : Fits id n a b) (h4 : typL id = 4 → n ≤ 268435455) : 2 ≤ szP id n a b ∧ szP id n a b ≤ 131075 := by
  have h1 := h.ha
  have h2 := h.hb
  have h3 := h.ht
  have h5 := typL_le id
  have h6 := varL_le n
  have h7 := fun e => varL_pos (h4 e)
  unfold szP
  generalize typL id = t at *
  rcases (show t = 1 ∨ t = 2 ∨ t = 3 ∨ t = 4 ∨ t = 5 ∨ t = 6 ∨ t = 7 from by omega) with rfl | rfl | rfl | rfl | rfl | rfl | rfl
  all_goals simp only [Nat.reduceEqDiff, if_true, if_false]
  all_goals first | omega | (have := h7 rfl; omega)
theorem layP_len {id n : Nat} {a b : ByteArray} (h : Fits id n a b) : (layP id n a b).length = szP id n a b := by
  have h3 := h.ht
  have h5 := typL_le id
  unfold szP layP
  generalize typL id = t at *
  rcases (show t = 1 ∨ t = 2 ∨ t = 3 ∨ t = 4 ∨ t = 5 ∨ t = 6 ∨ t = 7 from by omega) with rfl | rfl | rfl | rfl | rfl | rfl | rfl
  all_goals simp only [Nat.reduceEqDiff, if_true, if_false, addByte_len, addTwo_len, addFour_len, addVar_len, addBin_len, List.length_cons, List.length_nil]
  all_goals omega

/-! length -/
def lenGo : List Pr → Nat → Option Nat
  | [], n => some n
  | p :: t, n => if p.ok then (if n + p.size ≤ 268435455 then lenGo t (n + p.size) else none) else none
def LenIs (r : Option Nat) (w : World) (e : Ending) (w' : World) : Prop :=
  (e = match r with | some n => .returned (.tuple #[.int .i64 (n : Nat), .bool true]) | none => .returned (.tuple #[.int .i64 0, .bool false])) ∧ Kept No w w'
theorem drop_pr {L : List Pr} {j : Nat} (h : j < L.length) : L.drop j = L[j] :: L.drop (j + 1) := List.drop_eq_getElem_cons h
set_option maxHeartbeats 4000000 in
theorem length_any (a : Option Addr) (c : Nat) (L : List Pr) (w : World) (hr : Row w a (PC L)) (hl : L.length ≤ 100000) (hw : ∀ p ∈ L, p.wf') (hT : Tabs w) :
    Calls Tryd.prog 42 #[.slice a L.length c] w (LenIs (lenGo L 0) w) := by
  have HW := Lib.hid hw
  generalize hR : lenGo L 0 = R
  have HR := Lib.hid hR
  clear hw hR
  go_enter Tryd.func42, Tryd.ntmps42
  go_wp2
  go_loopw [4, 9] (fun s i wr => ∃ j n : Nat, i = .int .i64 j ∧ s = .int .i64 n ∧ n ≤ 268435455 ∧ j ≤ L.length ∧ Hid (lenGo (L.drop j) n = R) ∧ Kept No w wr) (fun _ i _ => L.length - (intOf i).toNat)
  case atStart => exact ⟨0, 0, rfl, rfl, by omega, by omega, Lib.hid (by rw [List.drop_zero]; exact HR.out), Kept.refl _ _⟩
  case round =>
    obtain ⟨j, n, rfl, rfl, hn, hj, HG, hk⟩ := hrel
    by_cases hlt : j < L.length
    · obtain ⟨b, off, rfl, hb, q0, q1, q2, q3⟩ := (hr.keptNo hk).prop hlt
      have HD := Lib.hid (drop_pr hlt)
      have hp := HW.out _ (List.getElem_mem hlt)
      generalize L[j] = p at *
      obtain ⟨id, pn, A, B⟩ := p
      obtain ⟨p1, p2, p3, p4⟩ := hp
      dsimp only at q0 q1 q2 q3 p1 p2 p3 p4
      have cR := fun wx hT => pright_any id pn A B wx hT p1 p2 (by omega) (by omega)
      have hB0 := Lib.hid (Blk.new wr 55 #[.int .u8 id, .int .u32 pn, .string A, .string B])
      have hTr := Lib.hid ((hT.kept hk).kept ((Kept.refl No wr).alloc (.cells #[.int .u8 id, .int .u32 pn, .string A, .string B] 55)))
      rcases hok : rightB id pn A B with _ | _
      · rw [hok] at cR
        have HC := Lib.hid cR
        have HE : Hid (R = none) := Lib.hid (by rw [← HG.out, HD.out, lenGo]; simp [Pr.ok, hok])
        clear cR hok
        go_wp2_with (go_at_call 79; refine (HC.out _ hTr.out).mono ?_; rintro e w2 ⟨rfl, hk2⟩)
        go_ret2
        exact ⟨by rw [HE.out]; rfl, (hk.alloc _).trans hk2⟩
      · rw [hok] at cR
        have HC := Lib.hid cR
        obtain ⟨hf, hf4⟩ := fits_of p1 p2 hok
        have hsz := szP_le hf hf4
        have cS := fun wx => size_any id pn A B wx p2 p3 p4
        have HG2 : Hid ((if n + szP id pn A B ≤ 268435455 then lenGo (L.drop (j + 1)) (n + szP id pn A B) else none) = R) := Lib.hid (by rw [← HG.out, HD.out, lenGo]; simp only [Pr.ok, Pr.size, hok]; rfl)
        generalize szP id pn A B = z at *
        have HS := Lib.hid cS
        clear cR cS hok hf hf4
        by_cases hbig : n + z ≤ 268435455
        · have hbI : decide ((268435455 : Int) < (n : Int) + z) = false := by simp; omega
          have HG3 : Hid (lenGo (L.drop (j + 1)) (n + z) = R) := Lib.hid (by rw [← HG2.out, if_pos hbig])
          go_wp2_with (first
            | (go_at_call 79; refine (HC.out _ hTr.out).mono ?_; rintro e w2 ⟨rfl, hk2⟩; have s0 := (hB0.out.kept hk2 (fun f => f)).cell 0; have s1 := (hB0.out.kept hk2 (fun f => f)).cell 1; have s2 := (hB0.out.kept hk2 (fun f => f)).cell 2; have s3 := (hB0.out.kept hk2 (fun f => f)).cell 3; simp at s0 s1 s2 s3)
            | (go_at_call 80; refine (HS.out _).mono ?_; rintro e w3 ⟨rfl, hk3⟩))
          go_roundw
          case rel => exact ⟨j + 1, n + z, by go_num, by go_num, hbig, by omega, HG3, ((hk.alloc _).trans hk2).trans hk3⟩
          case measure => simp [intOf]; omega
        · have hbI : (268435455 : Int) < (n : Int) + z := by omega
          have HE : Hid (R = none) := Lib.hid (by rw [← HG2.out, if_neg hbig])
          go_wp2_with (first
            | (go_at_call 79; refine (HC.out _ hTr.out).mono ?_; rintro e w2 ⟨rfl, hk2⟩; have s0 := (hB0.out.kept hk2 (fun f => f)).cell 0; have s1 := (hB0.out.kept hk2 (fun f => f)).cell 1; have s2 := (hB0.out.kept hk2 (fun f => f)).cell 2; have s3 := (hB0.out.kept hk2 (fun f => f)).cell 3; simp at s0 s1 s2 s3)
            | (go_at_call 80; refine (HS.out _).mono ?_; rintro e w3 ⟨rfl, hk3⟩))
          go_ret2
          exact ⟨by rw [HE.out]; rfl, ((hk.alloc _).trans hk2).trans hk3⟩
    · have HE : Hid (R = some n) := Lib.hid (by rw [← HG.out, List.drop_of_length_le (by omega)]; rfl)
      go_wp2
      go_ret2
      exact ⟨by rw [HE.out]; rfl, hk⟩

end Go.Proofs.YtfhcmmmgnkinoaaDoor
