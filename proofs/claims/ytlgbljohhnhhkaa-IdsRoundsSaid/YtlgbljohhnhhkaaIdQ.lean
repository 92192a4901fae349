/-
  IdsRights walked.
-/
import Derived.Test.YtlgbljohhnhhkaaIdD
import Derived.Test.YtlgbljohhnhhkaaIdE
import Derived.Test.YtlgbljohhnhhkaaIdO
import Derived.Test.YtlgbljohhnhhkaaIdP
namespace Go.Proofs.Ytlgbljohhnhhkaa
open Go.RowKit
set_option linter.unusedVariables false
set_option linter.unusedSimpArgs false
set_option maxRecDepth 100000

theorem OwnR.row {t : TypeId} {w w' : World} {L : List Rw} {e : Ending} (h : OwnR t w L e w') : ∃ a c, e = .returned (.slice a L.length c) ∧ Tb w' a c L ∧ Kept No w w' := by
  obtain ⟨a, c, h1, h2, h3⟩ := h
  exact ⟨a, c, h1, own_tb h2, h3⟩
set_option maxHeartbeats 4000000 in
theorem idsRights_walk (a : Option Addr) (len cap : Nat) (L : List Rw) (w : World) (h : IsRws w a len cap L) :
    Calls Try.prog 3 #[.slice a len cap] w fun e w' => e = .returned (.bool true) ∧ Below w.heap.size w w' := by
  obtain ⟨hlen, hrow, hle, hcap, hnil⟩ := h
  obtain ⟨M, hM⟩ : ∃ M, M = L.take 100 := ⟨_, rfl⟩
  have hMl : M.length = min len 100 := by rw [hM, List.length_take, hlen]; exact Nat.min_comm _ _
  have hMr : Row w a (RC M) := by
    have h1 : L = M ++ L.drop 100 := by rw [hM, List.take_append_drop]
    rw [h1] at hrow
    rcases hrow with h2 | ⟨b, off, ha, hb, hc⟩
    · rw [RC_append] at h2
      exact .inl (List.append_eq_nil_iff.1 h2).1
    · refine .inr ⟨b, off, ha, hb, fun j u hu => hc j u ?_⟩
      rw [RC_append, List.getElem?_append_left (List.getElem?_eq_some_iff.1 hu).1]
      exact hu
  have hM100 : M.length ≤ 100 := by omega
  unfold maxLen at hcap
  have cTo := fun wx (hk : Kept No w wx) => ito_any a cap M wx (hMr.keptNo hk) (by omega)
  have cRr := fun wx (hk : Kept No w wx) => rright_any a cap M wx (hMr.keptNo hk) (by omega)
  have cRi := fun wx b d (hr : Row wx b (RC M)) => iright_any b d M wx hr (by omega)
  generalize rightGo 0 M = B at *
  obtain ⟨m, hm⟩ : ∃ m, m = M.length := ⟨_, rfl⟩
  have cTo2 : ∀ wx, Kept No w wx → Calls Try.prog 9 #[.slice a m cap] wx (fun e w' => ∃ a4 c4, e = .returned (.slice a4 m c4) ∧ Row w' a4 (RC M) ∧ Kept No wx w') := fun wx hk => by
    rw [hm]
    exact (cTo wx hk).mono fun e w' h => by obtain ⟨a4, c4, h1, h2, h3⟩ := h.row; exact ⟨a4, c4, h1, h2.row, h3⟩
  rw [← hm] at cRr cRi hMl hM100
  have HTO := Lib.hid cTo2
  have HRR := Lib.hid cRr
  have HRI := Lib.hid cRi
  have hmin : min (len : Int) 100 = (m : Int) := by omega
  have hmc : m ≤ cap := by omega
  have hmlen : m ≤ len := by omega
  have HLIT := Lib.hid hmin
  clear cTo cTo2 cRr cRi hM hMr hm hrow hnil hlen hmin hMl
  have HT := Lib.hid (fun wx => told11_any wx)
  have fin : ∀ wx, Kept No w wx → Below w.heap.size w wx := fun wx hk => hk.below (Nat.le_refl _) (fun _ _ f => f)
  have HFIN := Lib.hid fin
  clear fin
  by_cases h100 : len ≤ 100
  · obtain rfl : m = len := by have := HLIT.out; omega
    clear HLIT
    have h1I : (m : Int) ≤ 100 := by omega
    go_enter Try.func3, Try.ntmps3
    go_wp2_with (first
      | (go_at_call 7; refine (HT.out _).mono ?_; rintro e w1 ⟨rfl, hk1⟩)
      | (go_at_call 9; refine (HTO.out _ hk1).mono ?_; rintro e w2 ⟨a4, c4, rfl, hr4, hk2⟩)
      | (go_at_call 8; refine (HRI.out _ _ _ hr4).mono ?_; rintro e w3 ⟨rfl, hk3⟩)
      | (go_at_call 10; refine (HRR.out _ ((hk1.trans hk2).trans hk3)).mono ?_; rintro e w4 ⟨rfl, hk4⟩))
    go_ret
    exact ⟨rfl, HFIN.out _ (((hk1.trans hk2).trans hk3).trans hk4)⟩
  · obtain rfl : m = 100 := by have := HLIT.out; omega
    clear HLIT
    have h1I : (100 : Int) < (len : Int) := by omega
    go_enter Try.func3, Try.ntmps3
    go_wp2_with (first
      | (go_at_call 7; refine (HT.out _).mono ?_; rintro e w1 ⟨rfl, hk1⟩)
      | (go_at_call 9; refine (HTO.out _ hk1).mono ?_; rintro e w2 ⟨a4, c4, rfl, hr4, hk2⟩)
      | (go_at_call 8; refine (HRI.out _ _ _ hr4).mono ?_; rintro e w3 ⟨rfl, hk3⟩)
      | (go_at_call 10; refine (HRR.out _ ((hk1.trans hk2).trans hk3)).mono ?_; rintro e w4 ⟨rfl, hk4⟩))
    go_ret
    exact ⟨rfl, HFIN.out _ (((hk1.trans hk2).trans hk3).trans hk4)⟩

end Go.Proofs.Ytlgbljohhnhhkaa
