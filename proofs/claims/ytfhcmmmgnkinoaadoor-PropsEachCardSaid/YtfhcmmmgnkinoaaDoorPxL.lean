/-
  All properties of bytes; the document's Each.
-/
import Derived.Test.YtfhcmmmgnkinoaaDoorPxK
namespace Go.Proofs.YtfhcmmmgnkinoaaDoor
open Go.RowKit
set_option linter.unusedVariables false
set_option linter.unusedSimpArgs false
set_option maxRecDepth 100000

theorem leftL_suf (n : Int) (l : List UInt8) (e : Int) : leftL n l e <:+ l := by
  unfold leftL
  split
  · split
    · exact List.drop_suffix _ _
    · exact List.nil_suffix
  · exact List.suffix_refl _
theorem binL_suf (l : List UInt8) (e : Int) : binL l e <:+ l := (leftL_suf _ _ _).trans (leftL_suf _ _ _)
theorem rv_suf : ∀ (f i n : Nat) (l : List UInt8) (e : Int), (rv f i n l e).2.1 <:+ l
  | 0, _, _, _, _ => List.nil_suffix
  | f + 1, i, n, l, e => by
    rw [rv]
    split
    · exact leftL_suf _ _ _
    · split
      · exact (rv_suf f _ _ _ _).trans (leftL_suf _ _ _)
      · split
        · exact List.nil_suffix
        · exact leftL_suf _ _ _
theorem typS_suf (t id : Nat) (l : List UInt8) (e : Int) : (typS t id l e).2.1 <:+ l := by
  unfold typS
  repeat' split
  all_goals dsimp only
  all_goals first | exact leftL_suf _ _ _ | exact rv_suf _ _ _ _ _ | exact binL_suf _ _ | exact (binL_suf _ _).trans (binL_suf _ _) | exact List.suffix_refl _
theorem nextS_suf (l : List UInt8) : (nextS l 0).2.1 <:+ leftL 1 l 0 := typS_suf _ _ _ _
theorem nextK_ne {l : List UInt8} (h : nextK l = true) : l ≠ [] := by
  rintro rfl
  rw [nextK_typ [] (by decide)] at h
  cases h
theorem next_lt {l : List UInt8} (h : nextK l = true) : (nextS l 0).2.1.length < l.length := by
  have h1 := (nextS_suf l).length_le
  have hne := nextK_ne h
  cases l with
  | nil => exact absurd rfl hne
  | cons c t =>
    rw [(one_cons c t).2.1] at h1
    simp only [List.length_cons]
    omega
theorem next_drop (l : List UInt8) : (nextS l 0).2.1 = l.drop (l.length - (nextS l 0).2.1.length) :=
  List.suffix_iff_eq_drop.1 ((nextS_suf l).trans (leftL_suf _ _ _))

/-- All properties of bytes, and whether no bytes are left. -/
def eachF : Nat → List UInt8 → List Pr × Bool
  | 0, _ => ([], true)
  | f + 1, l => if l.isEmpty then ([], true) else if nextK l then ((nextS l 0).1 :: (eachF f (nextS l 0).2.1).1, (eachF f (nextS l 0).2.1).2) else ([], false)
theorem eachF_fuel : ∀ (f g : Nat) (l : List UInt8), l.length ≤ f → l.length ≤ g → eachF f l = eachF g l
  | 0, 0, _, _, _ => rfl
  | 0, g + 1, l, h, _ => by
    have : l = [] := List.length_eq_zero_iff.1 (by omega)
    subst this
    rfl
  | f + 1, 0, l, _, h => by
    have : l = [] := List.length_eq_zero_iff.1 (by omega)
    subst this
    rfl
  | f + 1, g + 1, l, h1, h2 => by
    rw [eachF, eachF]
    split
    · rfl
    · split
      · rename_i hk
        have hlt := next_lt hk
        rw [eachF_fuel f g _ (by omega) (by omega)]
      · rfl
def eachL (l : List UInt8) : List Pr × Bool := eachF l.length l
theorem eachL_nil : eachL [] = ([], true) := rfl
theorem eachL_bad {l : List UInt8} (h0 : l ≠ []) (h : nextK l = false) : eachL l = ([], false) := by
  unfold eachL
  cases l with
  | nil => exact absurd rfl h0
  | cons c t => rw [List.length_cons, eachF]; simp [h]
theorem eachL_cons {l : List UInt8} (h : nextK l = true) : eachL l = ((nextS l 0).1 :: (eachL (nextS l 0).2.1).1, (eachL (nextS l 0).2.1).2) := by
  have hlt := next_lt h
  have hne := nextK_ne h
  unfold eachL
  rw [eachF_fuel l.length (l.length + 1) l (Nat.le_refl _) (by omega), eachF, if_neg (by simpa using hne), if_pos h, eachF_fuel l.length (nextS l 0).2.1.length _ (by omega) (Nat.le_refl _)]
def REachIs (l : List UInt8) (w : World) (e : Ending) (w' : World) : Prop :=
  ∃ a c, e = .returned (.tuple #[.slice a (eachL l).1.length c, .bool (eachL l).2]) ∧ w'.ownsRow w.heap.size 58 4 (.slice a (eachL l).1.length c) (eachL l).1.length (PC (eachL l).1) ∧ Kept No w w'
theorem reach_of {l : List UInt8} {w w' : World} {L : List Pr} {k : Bool} {v : Value} {n : Nat} {xs : List Value} (he : eachL l = (L, k)) (hown : w'.ownsRow w.heap.size 58 4 v n xs) (hn : n = L.length) (hx : xs = PC L) (hk : Kept No w w') : REachIs l w (.returned (.tuple #[v, .bool k])) w' := by
  obtain ⟨a, c, h1, h2, h3⟩ := ownP_of hown hn hx hk
  injection h1 with h1
  subst h1
  exact ⟨a, c, by rw [he], by rw [he]; exact h2, hk⟩
theorem each_len : ∀ (f : Nat) (l : List UInt8), (eachF f l).1.length ≤ f
  | 0, _ => Nat.le_refl _
  | f + 1, l => by
    rw [eachF]
    split
    · simp
    · split
      · have := each_len f (nextS l 0).2.1
        simp only [List.length_cons]
        omega
      · simp
theorem extract_drop (b : ByteArray) (k : Nat) : b.extract k b.size = ⟨(b.data.toList.drop k).toArray⟩ := by
  rw [Lib.extract_eq]
  congr 2
  rw [List.take_of_length_le (by rw [List.length_drop, sz_list]; omega)]

set_option maxHeartbeats 8000000 in
theorem reach_any (w : World) (B0 : ByteArray) (h : B0.size ≤ 100000) :
    Calls Tryd.prog 26 #[.string B0] w (REachIs B0.data.toList w) := by
  obtain ⟨i0, hi, hz0, hz1, hz2⟩ := info_parts info_rprop
  go_enter Tryd.func26, Tryd.ntmps26
  go_wp2
  go_loopw [0, 4] (fun s v wr => ∃ (l : List UInt8) (D : List Pr), s = .string ⟨l.toArray⟩ ∧ D.length + l.length ≤ B0.size ∧ Hid (eachL B0.data.toList = (D ++ (eachL l).1, (eachL l).2)) ∧ wr.ownsRow w.heap.size 58 4 v D.length (PC D) ∧ Kept No w wr) (fun s _ _ => match s with | .string b => b.size | _ => 0)
  case atStart => exact ⟨B0.data.toList, [], by simp, by rw [sz_list]; simp, Lib.hid (by simp), World.ownsRow_nil _ _ _ _, Kept.refl _ _⟩
  case round =>
    obtain ⟨l, D, rfl, hlen, HE, hown, hk⟩ := hrel
    have hsz := hk.size
    have hbs : (⟨l.toArray⟩ : ByteArray).size = l.length := ba_size l
    by_cases h0 : l = []
    · subst h0
      have HF : Hid (eachL B0.data.toList = (D, true)) := Lib.hid (by rw [HE.out, eachL_nil, List.append_nil])
      go_wp2
      go_ret2
      exact reach_of HF.out hown rfl rfl hk
    · have hlp := List.length_pos_iff.2 h0
      have hne0 : (0 : Int) < ((⟨l.toArray⟩ : ByteArray).size : Int) := by rw [hbs]; omega
      have cN := rnext_any wr ⟨l.toArray⟩ (by rw [hbs]; omega)
      rw [show (⟨l.toArray⟩ : ByteArray).data.toList = l from rfl, hbs] at cN
      rcases hK : nextK l with _ | _
      · rw [hK] at cN
        have HC : Hid (Calls Tryd.prog 61 #[.string ⟨l.toArray⟩] wr fun e w' => e = .returned (.tuple #[.agg #[.int .u8 0, .int .u32 0, .string ⟨#[]⟩, .string ⟨#[]⟩], .int .i64 0]) ∧ Kept No wr w') := Lib.hid (cN.mono fun e w' ⟨h1, h2⟩ => ⟨by rw [h1]; rfl, h2⟩)
        have HF : Hid (eachL B0.data.toList = (D, false)) := Lib.hid (by rw [HE.out, eachL_bad h0 hK, List.append_nil])
        clear cN hK
        go_wp2_with (go_at_call 61; refine HC.out.mono ?_; rintro e w2 ⟨rfl, hk2⟩)
        go_ret2
        exact reach_of HF.out (own_keptNo (own_keptNo hown hk2) ((Kept.refl No w2).alloc _)) rfl rfl ((hk.trans hk2).alloc _)
      · rw [hK] at cN
        have hlt := next_lt hK
        have hdr := next_drop l
        have HF : Hid (eachL B0.data.toList = ((D ++ [(nextS l 0).1]) ++ (eachL (nextS l 0).2.1).1, (eachL (nextS l 0).2.1).2)) := Lib.hid (by rw [HE.out, eachL_cons hK]; simp)
        have HX : Hid ((⟨l.toArray⟩ : ByteArray).extract (l.length - (nextS l 0).2.1.length) l.length = ⟨(nextS l 0).2.1.toArray⟩) := Lib.hid (by
          have := extract_drop ⟨l.toArray⟩ (l.length - (nextS l 0).2.1.length)
          rw [hbs] at this
          rw [this]
          congr 2
          exact hdr.symm)
        generalize nextS l 0 = SS at *
        obtain ⟨⟨id, n, A, B⟩, l2, e2⟩ := SS
        dsimp only at hlt hdr HF HX
        have HC := Lib.hid cN
        clear cN hK hdr HE
        obtain ⟨nb, hnb⟩ : ∃ nb, nb = l.length - l2.length := ⟨_, rfl⟩
        rw [← hnb, ← hbs] at HX
        have HC2 : Hid (Calls Tryd.prog 61 #[.string ⟨l.toArray⟩] wr fun e w' => e = .returned (.tuple #[.agg #[.int .u8 id, .int .u32 n, .string A, .string B], .int .i64 nb]) ∧ Kept No wr w') := Lib.hid (HC.out.mono fun e w' ⟨h1, h2⟩ => ⟨by rw [h1, hnb]; rfl, h2⟩)
        have hnb1 : 0 < nb := by omega
        have hnb2 : nb ≤ l.length := by omega
        have hz : ((nb : Int) == 0) = false := by simp; omega
        have hnI : (nb : Int) ≤ ((⟨l.toArray⟩ : ByteArray).size : Int) := by rw [hbs]; omega
        have HNB := Lib.hid hnb
        have HBS := Lib.hid hbs
        clear HC hnb hbs
        generalize hb9 : (⟨l.toArray⟩ : ByteArray) = b9 at *
        go_wp2_with (first
          | (go_at_call 61; refine HC2.out.mono ?_; rintro e w2 ⟨rfl, hk2⟩; have hown1 := own_keptNo (own_keptNo hown hk2) ((Kept.refl No w2).alloc (.cells #[.int .u8 id, .int .u32 n, .string A, .string B] 58)))
          | (at_builtin; refine wpList_append_own _ rfl _ _ _ rfl w.heap.size 58 i0 _ 4 40 Tryd.underlying22 hi hz0 hz1 hz2 rfl (by decide) _ _ _ rfl (hown1.alloc _) ⟨w2.heap.size + 1, 0, none⟩ 1 1 (PC [⟨id, n, A, B⟩]) rfl ?c0 ?c1 (PC_cell1 _) ?c2 ?c3 ?c4 ?_; rotate_right; intro v3 w3 hown3 hg3 _))
        case c0 => exact PC_length4 [] _
        case c1 =>
          have := new_prop (w := w2.alloc (.cells #[.int .u8 id, .int .u32 n, .string A, .string B] 58)) (t := 58) (p := ⟨id, n, A, B⟩)
          rw [World.size_alloc] at this
          exact this
        case c2 => unfold maxLen; omega
        case c3 => omega
        case c4 => have := hk2.size; simp; omega
        go_roundw
        case rel => exact ⟨l2, D ++ [⟨id, n, A, B⟩], by rw [HX.out], by rw [List.length_append]; simp; omega, HF, by rw [PC_append, List.length_append]; exact hown3, (((hk.trans hk2).alloc _).alloc _).grown hg3 (own_no hown1)⟩
        case measure =>
          show (b9.extract nb b9.size).size < b9.size
          rw [HX.out, ba_size]; have := HBS.out; omega

end Go.Proofs.YtfhcmmmgnkinoaaDoor
