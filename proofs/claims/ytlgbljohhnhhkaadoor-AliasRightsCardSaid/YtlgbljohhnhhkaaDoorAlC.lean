/-
  Lists of short names: Right, Get.
-/
import Derived.Test.YtlgbljohhnhhkaaDoorAlA
namespace Go.Proofs.YtlgbljohhnhhkaaDoor
open Go.RowKit
set_option linter.unusedVariables false
set_option linter.unusedSimpArgs false
set_option maxRecDepth 100000

theorem drop_rw {L : List Rw} {j : Nat} (h : j < L.length) : L.drop j = L[j] :: L.drop (j + 1) := List.drop_eq_getElem_cons h
def RightIs (b : Bool) (w : World) (e : Ending) (w' : World) : Prop := e = .returned (.bool b) ∧ Kept No w w'
/-- No topic is longer than any machine has room for. -/
def Texts (L : List Rw) : Prop := ∀ r ∈ L, r.tx.size ≤ 100000

set_option maxHeartbeats 4000000 in
theorem iright_any (a : Option Addr) (c : Nat) (L : List Rw) (w : World) (hr : Row w a (RC L)) (hl : L.length ≤ 100000) (ht : Texts L) (hT : Tabs w) :
    Calls Tryd.prog 6 #[.slice a L.length c] w (RightIs (rightGo 0 L) w) := by
  generalize hR : rightGo 0 L = R
  have HR := Lib.hid hR
  have HTX := Lib.hid ht
  clear hR ht
  go_enter Tryd.func6, Tryd.ntmps6
  go_wp2
  go_loopw [3, 8] (fun b i wr => ∃ j m : Nat, i = .int .i64 j ∧ b = .int .u16 m ∧ j ≤ L.length ∧ Hid (rightGo m (L.drop j) = R) ∧ Kept No w wr) (fun _ i _ => L.length - (intOf i).toNat)
  case atStart => exact ⟨0, 0, rfl, rfl, by omega, Lib.hid (by rw [List.drop_zero]; exact HR.out), Kept.refl _ _⟩
  case round =>
    obtain ⟨j, m, rfl, rfl, hj, HG, hk⟩ := hrel
    by_cases hlt : j < L.length
    · obtain ⟨b, off, rfl, hb, q0, q1⟩ := (hr.keptNo hk).rw3 hlt
      have HD := Lib.hid (drop_rw hlt)
      have htx := HTX.out _ (List.getElem_mem hlt)
      generalize L[j] = p at *
      obtain ⟨id, tx⟩ := p
      dsimp only at q0 q1 htx
      have HE : Hid ((decide (m < id) && (nameB tx && rightGo id (L.drop (j + 1)))) = R) := Lib.hid (by rw [← HG.out, HD.out]; rfl)
      have cF := fun wx hT => name_any tx wx (by omega) hT
      have hTr := (hT.kept hk).kept ((Kept.refl No wr).alloc (.cells #[.int .u16 id, .string tx] 46))
      have hB0 := Blk.new wr 46 #[.int .u16 id, .string tx]
      have HTR := Lib.hid hTr
      have HB0 := Lib.hid hB0
      clear hTr hB0
      by_cases hlo : m < id
      · have hloI : ¬ (id : Int) ≤ (m : Int) := by omega
        cases hf : nameB tx with
        | true =>
          have HN : Hid (rightGo id (L.drop (j + 1)) = R) := Lib.hid (by have := HE.out; rwa [hf, decide_eq_true hlo] at this)
          rw [hf] at cF
          have HF := Lib.hid cF
          clear cF hf HE HG HD
          go_wp2_with (go_at_call 15; refine (HF.out _ HTR.out).mono ?_; rintro e w2 ⟨rfl, hk2⟩; have s0 := (HB0.out.kept hk2 (fun f => f)).cell 0; simp at s0; have sl := (HB0.out.kept hk2 (fun f => f)).lt)
          go_roundw
          case rel => exact ⟨j + 1, id, by go_num, rfl, by omega, HN, (hk.alloc _).trans hk2⟩
          case measure => simp [intOf]; omega
        | false =>
          have HN : Hid (R = false) := Lib.hid (by have := HE.out; rw [hf] at this; simpa using this.symm)
          rw [hf] at cF
          have HF := Lib.hid cF
          clear cF hf HE HG HD
          go_wp2_with (go_at_call 15; refine (HF.out _ HTR.out).mono ?_; rintro e w2 ⟨rfl, hk2⟩)
          go_ret
          exact ⟨by rw [HN.out]; rfl, (hk.alloc _).trans hk2⟩
      · have hloI : (id : Int) ≤ (m : Int) := by omega
        have HN : Hid (R = false) := Lib.hid (by have := HE.out; rw [decide_eq_false hlo] at this; simpa using this.symm)
        clear cF HE HG HD
        go_wp2
        go_ret
        exact ⟨by rw [HN.out]; rfl, hk.alloc _⟩
    · have HN : Hid (R = true) := Lib.hid (by rw [← HG.out, List.drop_of_length_le (by omega)]; rfl)
      go_wp2
      go_ret
      exact ⟨by rw [HN.out]; rfl, hk⟩

theorem ofL_drop {L : List Rw} {i j : Nat} (h : j < L.length) (hn : L[j].id ≠ i) : ofL (L.drop j) i = ofL (L.drop (j + 1)) i := by
  rw [drop_rw h]
  unfold ofL
  rw [List.find?_cons_of_neg (by simpa using hn)]
/-- What Get answers. -/
def getV (o : Option Rw) : Value := match o with | none => .tuple #[.string ⟨#[]⟩, .bool false] | some r => .tuple #[.string r.tx, .bool true]
def GetIs (o : Option Rw) (w : World) (e : Ending) (w' : World) : Prop := e = .returned (getV o) ∧ Kept No w w'
set_option maxHeartbeats 4000000 in
theorem rget_any (a : Option Addr) (c : Nat) (L : List Rw) (i : Nat) (w : World) (hr : Row w a (RC L)) (hl : L.length ≤ 100000) :
    Calls Tryd.prog 14 #[.slice a L.length c, .int .u16 i] w (GetIs (ofL L i) w) := by
  generalize hR : ofL L i = R
  have HR := Lib.hid hR
  clear hR
  go_enter Tryd.func14, Tryd.ntmps14
  go_wp2
  go_loopw [6] (fun v wr => ∃ j : Nat, v = .int .i64 j ∧ j ≤ L.length ∧ Hid (ofL (L.drop j) i = R) ∧ Kept No w wr) (fun v _ => L.length - (intOf v).toNat)
  case atStart => exact ⟨0, rfl, by omega, Lib.hid (by rw [List.drop_zero]; exact HR.out), Kept.refl _ _⟩
  case round =>
    obtain ⟨j, rfl, hj, HG, hk⟩ := hrel
    by_cases hlt : j < L.length
    · obtain ⟨b, off, rfl, hb, q0, q1⟩ := (hr.keptNo hk).rw3 hlt
      have HD := Lib.hid (drop_rw hlt)
      have HO := Lib.hid (fun h => ofL_drop (i := i) hlt h)
      generalize L[j] = p at *
      obtain ⟨id, tx⟩ := p
      dsimp only at q0 q1 HO
      by_cases he : id = i
      · subst he
        have HN : Hid (R = some ⟨id, tx⟩) := Lib.hid (by rw [← HG.out, HD.out]; simp [ofL])
        clear HG HD HO
        go_wp2
        go_ret2
        exact ⟨by rw [HN.out]; rfl, hk⟩
      · have heI : ((id : Int) == (i : Int)) = false := by simp; omega
        have HN : Hid (ofL (L.drop (j + 1)) i = R) := Lib.hid (by rw [← HO.out he]; exact HG.out)
        clear HG HD HO
        go_wp2
        go_roundw
        case rel => exact ⟨j + 1, by go_num, by omega, HN, hk⟩
        case measure => simp [intOf]; omega
    · have HN : Hid (R = none) := Lib.hid (by rw [← HG.out, List.drop_of_length_le (by omega)]; rfl)
      clear HG
      go_wp2
      go_ret2
      exact ⟨by rw [HN.out]; rfl, hk⟩

end Go.Proofs.YtlgbljohhnhhkaaDoor
