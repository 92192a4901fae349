/-
  Contracts of the document's own Reader (pouchref01): Bin, Rest, Sub, Var.
-/
import Derived.Test.YtfhcmmmgnkinoaaDoorRef1
namespace Go.Proofs.YtfhcmmmgnkinoaaDoor
open Go.RowKit
set_option linter.unusedVariables false
set_option linter.unusedSimpArgs false
set_option maxRecDepth 100000

theorem refbin_any (w : World) (r : Nat) (B : ByteArray) (l : List UInt8) (err : Int) (h : RefR w r B l err) :
    Calls Tryd.prog 97 #[.pointer (some ⟨r, 0, none⟩)] w fun e w' =>
      e = .returned (.string ⟨(binTaken l err).toArray⟩) ∧ RAfter w w' r B (binL l err) (binE l err) := by
  have ht := rnum_any w r B l err 2 h (by omega) (by omega)
  have ht2 := fun w1 (hr : RefR w1 r B (leftL 2 l err) (leftE 2 l err)) => rtake_any w1 r B (leftL 2 l err) (leftE 2 l err) (num (taken 2 l err)) hr
  unfold binTaken binL binE
  have hb := num_le 2 l err 2 (by omega)
  generalize num (taken 2 l err) = q at *
  generalize leftL 2 l err = l1 at *
  generalize leftE 2 l err = e1 at *
  generalize taken q l1 e1 = t at *
  generalize leftL q l1 e1 = l2 at *
  generalize leftE q l1 e1 = e2 at *
  generalize okT q l1 e1 = ok at *
  have HT := Lib.hid ht
  have HT2 := Lib.hid ht2
  clear ht ht2 h
  go_enter Tryd.func97, Tryd.ntmps97
  go_wp2_with (first
    | (go_at_call 96; refine HT.out.mono ?_; rintro e w1 ⟨rfl, ha⟩)
    | (go_at_call 94; refine (HT2.out _ ha.rdr).mono ?_; rintro e w2 ⟨rfl, ha2⟩))
  go_ret
  exact ⟨rfl, ha2.rdr, ha.kept.trans ha2.kept⟩

theorem refrest_any (w : World) (r : Nat) (B : ByteArray) (l : List UInt8) (err : Int) (h : RefR w r B l err) :
    Calls Tryd.prog 60 #[.pointer (some ⟨r, 0, none⟩)] w fun e w' =>
      e = .returned (.string ⟨l.toArray⟩) ∧ RAfter w w' r B [] err := by
  have hl := rleft_any w r B l err h
  have ht := fun w1 (hr : RefR w1 r B l err) => rtake_any w1 r B l err l.length hr
  have hln : l.length ≤ 140737000000000 := by
    obtain ⟨at_, hb, h1, h2, h3, h4⟩ := h
    by_cases he : err = 0
    · rw [h3 he, List.length_drop, size_list]; omega
    · rw [h4 he]; simp
  have h5 : err ≠ 0 → l = [] := by obtain ⟨a, _, _, _, _, h5⟩ := h; exact h5
  have e1 : taken l.length l err = l := by
    unfold taken
    by_cases he : err = 0
    · simp [he]
    · simp [h5 he]
  have e2 : leftL l.length l err = [] := by
    unfold leftL
    by_cases he : err = 0
    · simp [he]
    · simp [he, h5 he]
  have e3 : leftE l.length l err = err := by
    unfold leftE
    by_cases he : err = 0
    · simp [he]
    · simp [he]
  rw [e1, e2, e3] at ht
  generalize okT l.length l err = ok at *
  have HT := Lib.hid ht
  have HL := Lib.hid hl
  clear ht hl h e1 e2 e3 h5
  go_enter Tryd.func60, Tryd.ntmps60
  go_wp2_with (first
    | (go_at_call 95; refine HL.out.mono ?_; rintro e w1 ⟨rfl, ha⟩)
    | (go_at_call 94; refine (HT.out _ ha.rdr).mono ?_; rintro e w2 ⟨rfl, ha2⟩))
  go_ret
  exact ⟨rfl, ha2.rdr, ha.kept.trans ha2.kept⟩

theorem RefR.cells {w : World} {r : Nat} {B : ByteArray} {l : List UInt8} {err : Int} (h : RefR w r B l err) :
    ∃ a : Nat, w.cell? ⟨r, 0, none⟩ = some (.string B) ∧ w.cell? ⟨r, 1, none⟩ = some (.int .i64 a) ∧ w.cell? ⟨r, 2, none⟩ = some (.int .i64 err) := by
  obtain ⟨a, hb, _⟩ := h
  exact ⟨a, by rw [hb.cell]; rfl, by rw [hb.cell]; rfl, by rw [hb.cell]; rfl⟩

theorem refsub_any (w : World) (r : Nat) (B : ByteArray) (l : List UInt8) (err n : Int) (h : RefR w r B l err) :
    Calls Tryd.prog 59 #[.pointer (some ⟨r, 0, none⟩), .int .i64 n] w fun e w' =>
      ∃ s B', e = .returned (.pointer (some ⟨s, 0, none⟩)) ∧ w.heap.size ≤ s ∧ RefR w' s B' (taken n l err) (leftE n l err) ∧ RAfter w w' r B (leftL n l err) (leftE n l err) := by
  have ht := rtake_any w r B l err n h
  have hlt : (taken n l err).length ≤ 140737000000000 := by
    obtain ⟨at_, hb, h1, h2, h3, h4⟩ := h
    unfold taken
    split
    · next hh => rw [h3 hh.1, List.length_take, List.length_drop, size_list]; omega
    · simp
  have h5 : okT n l err = false → taken n l err = [] ∧ leftE n l err ≠ 0 := by
    unfold okT taken leftE
    intro hh
    have hh := of_decide_eq_false hh
    rw [if_neg hh]
    refine ⟨rfl, ?_⟩
    split
    · rw [if_neg (by intro h; exact hh ⟨by assumption, h⟩)]; decide
    · assumption
  have h6 : okT n l err = true → leftE n l err = 0 := by
    unfold okT leftE
    intro hh
    have hh := of_decide_eq_true hh
    rw [if_pos hh.1, if_pos hh.2]
  generalize taken n l err = t at *
  generalize leftL n l err = l1 at *
  generalize leftE n l err = e1 at *
  generalize okT n l err = ok at *
  have HT := Lib.hid ht
  clear ht h
  have H5 := Lib.hid h5
  have H6 := Lib.hid h6
  clear h5 h6
  cases ok
  · obtain ⟨rfl, he⟩ := H5.out rfl
    go_enter Tryd.func59, Tryd.ntmps59
    go_wp2_with (go_at_call 94; refine HT.out.mono ?_; rintro e w2 ⟨rfl, ha⟩; obtain ⟨a1, q10, q11, q12⟩ := ha.rdr.cells)
    go_ret
    exact ⟨_, ⟨#[]⟩, rfl, ha.kept.size, ⟨0, Blk.new _ _ _, by simp, by decide, by simp, by simp⟩, ha.rdr.kept ((Kept.refl No _).alloc _) (fun f => f), ha.kept.alloc _⟩
  · have he := H6.out rfl
    subst he
    go_enter Tryd.func59, Tryd.ntmps59
    go_wp2_with (go_at_call 94; refine HT.out.mono ?_; rintro e w2 ⟨rfl, ha⟩)
    go_ret
    exact ⟨_, ⟨t.toArray⟩, rfl, ha.kept.size, ⟨0, Blk.new _ _ _, by simp, by simpa [ByteArray.size] using hlt, by simp, by simp⟩, ha.rdr.kept ((Kept.refl No _).alloc _) (fun f => f), ha.kept.alloc _⟩

theorem one_nil : taken 1 [] 0 = [] ∧ leftL 1 [] 0 = [] ∧ leftE 1 [] 0 = 2 := by decide
theorem one_cons (c : UInt8) (t : List UInt8) : taken 1 (c :: t) 0 = [c] ∧ leftL 1 (c :: t) 0 = t ∧ leftE 1 (c :: t) 0 = 0 := by
  have h : (1 : Int) ≤ ((c :: t).length : Nat) := by simp; omega
  refine ⟨?_, ?_, ?_⟩
  · unfold taken; rw [if_pos ⟨rfl, by omega, h⟩]; rfl
  · unfold leftL; rw [if_pos rfl, if_pos ⟨by omega, h⟩]; rfl
  · unfold leftE; rw [if_pos rfl, if_pos ⟨by omega, h⟩]
theorem num_one (c : UInt8) : num [c] = c.toNat := by simp [num]
theorem rv_nil (f i n : Nat) : rv (f + 1) i n [] 0 = (0, [], 2) := by rw [rv_stop (by rw [one_nil.2.2]; decide), one_nil.2.1, one_nil.2.2]
theorem rv_err (f i n : Nat) (err : Int) (h : err ≠ 0) : rv (f + 1) i n [] err = (0, [], err) := by
  have e1 : leftE 1 [] err = err := by simp [leftE, h]
  have e2 : leftL 1 [] err = [] := by simp [leftL, h]
  rw [rv_stop (by rw [e1]; exact h), e1, e2]
theorem rv_cons_more (f i n : Nat) (c : UInt8) (t : List UInt8) (h : 128 ≤ c.toNat) : rv (f + 1) i n (c :: t) 0 = rv f (i + 1) (n + c.toNat % 128 * 128 ^ i) t 0 := by
  rw [rv_more (one_cons c t).2.2 (by rw [(one_cons c t).1, num_one]; exact h), (one_cons c t).1, num_one, (one_cons c t).2.1, (one_cons c t).2.2]
theorem rv_cons_zero (f i n : Nat) (c : UInt8) (t : List UInt8) (h : c.toNat = 0) (hi : 0 < i) : rv (f + 1) i n (c :: t) 0 = (0, [], 3) :=
  rv_zero (one_cons c t).2.2 (by rw [(one_cons c t).1, num_one]; exact h) hi
theorem rv_cons_done (f i n : Nat) (c : UInt8) (t : List UInt8) (h : c.toNat < 128) (hi : ¬ (c.toNat = 0 ∧ 0 < i)) : rv (f + 1) i n (c :: t) 0 = (n + c.toNat % 128 * 128 ^ i, t, 0) := by
  rw [rv_done (one_cons c t).2.2 (by rw [(one_cons c t).1, num_one]; exact h) (by rw [(one_cons c t).1, num_one]; exact hi), (one_cons c t).1, num_one, (one_cons c t).2.1, (one_cons c t).2.2]

def RrvIs (res : Nat × List UInt8 × Int) (w : World) (r : Nat) (B : ByteArray) (e : Ending) (w' : World) : Prop := e = .returned (.int .u32 res.1) ∧ RAfter w w' r B res.2.1 res.2.2

theorem refvar_bad (w : World) (r : Nat) (B : ByteArray) (l : List UInt8) (err : Int) (h : RefR w r B l err) (he : err ≠ 0) :
    Calls Tryd.prog 58 #[.pointer (some ⟨r, 0, none⟩)] w (RrvIs (rv 4 0 0 l err) w r B) := by
  have h' := h
  obtain ⟨at_, hb, h1, h2, h3, h4⟩ := h
  have hl := h4 he
  subst hl
  rw [rv_err 3 0 0 err he]
  have c2 := hb.cell 2
  simp at c2
  have hne : (err != 0) = true := by simpa using he
  clear h3 h4
  go_enter Tryd.func58, Tryd.ntmps58
  go_wp2
  go_ret
  exact ⟨rfl, h', Kept.refl _ _⟩

end Go.Proofs.YtfhcmmmgnkinoaaDoor
