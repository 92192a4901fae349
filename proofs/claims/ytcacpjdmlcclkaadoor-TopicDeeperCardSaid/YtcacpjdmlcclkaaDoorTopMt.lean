/-
  Contract of topic.Match: made by mkmat.py.
-/
import Derived.Test.YtcacpjdmlcclkaaDoorTopC
namespace Go.Proofs.YtcacpjdmlcclkaaDoor
open Go.RowKit
set_option linter.unusedVariables false
set_option linter.unusedSimpArgs false

/-- What is wanted, of a share or not. -/
def ofL (l : List UInt8) : List UInt8 := if isShare l then whatL (behind l) else l
def wantsL (g n : List UInt8) : Bool := !(([36] : List UInt8).isPrefixOf n && wildL (g.take 1)) && coversL (lev g) (lev n)
def matchB (f n : ByteArray) : Bool := filterB f && (nameB n && wantsL (ofL f.data.toList) n.data.toList)
theorem plain_ne {l : List UInt8} (h : plainL l = true) : l ≠ [] := by
  unfold plainL at h
  intro e
  subst e
  simp at h
theorem filter_of {f : ByteArray} (h : filterB f = true) : ofL f.data.toList ≠ [] ∧ (ofL f.data.toList).length ≤ f.size ∧ plainL (ofL f.data.toList) = true := by
  have key : plainL (ofL f.data.toList) = true := by
    unfold filterB at h
    unfold ofL
    rcases hS : isShare f.data.toList with _ | _
    · rw [hS] at h
      rw [if_neg (by simp)] at h ⊢
      exact (Bool.and_eq_true _ _ ▸ h).2
    · rw [hS] at h
      rw [if_pos rfl] at h ⊢
      unfold shareB at h
      simp only [Bool.and_eq_true] at h
      exact h.2.2.2
  refine ⟨plain_ne key, ?_, key⟩
  unfold ofL
  rw [← sz_list]
  split
  · exact Nat.le_trans (what_le _) (behind_le _)
  · exact Nat.le_refl _
theorem nameB_size {s : ByteArray} (h : nameB s = true) : s.size ≤ 65535 ∧ 0 < s.size := by
  unfold nameB at h
  simp at h
  exact ⟨okText_size h.1, h.2.1⟩

set_option maxRecDepth 100000 in
set_option maxHeartbeats 4000000 in
theorem match_any (f n : ByteArray) (w : World) (hf : f.size ≤ 9223372036854775807) (hn : n.size ≤ 9223372036854775807) (hT : Tabs w) :
    Calls Tryd.prog 19 #[.string f, .string n] w fun e w' => e = .returned (.bool (matchB f n)) ∧ Kept No w w' := by
  unfold matchB
  have cF := filter_any f w hf hT
  rcases hF : filterB f with _ | _
  · rw [hF] at cF
    have HF := Lib.hid cF
    rw [Bool.false_and]
    clear cF hF
    go_enter Tryd.func19, Tryd.ntmps19
    go_wp2_with (go_at_call 15; refine HF.out.mono ?_; rintro e w1 ⟨rfl, hk1⟩)
    go_ret
    exact ⟨rfl, hk1⟩
  rw [hF] at cF
  have HF := Lib.hid cF
  have cN := fun wx hT => name_any n wx hn hT
  rcases hN : nameB n with _ | _
  · rw [hN] at cN
    have HN := Lib.hid cN
    rw [Bool.false_and, Bool.and_false]
    clear cF cN hF hN
    go_enter Tryd.func19, Tryd.ntmps19
    go_wp2_with (first
      | (go_at_call 15; refine HF.out.mono ?_; rintro e w1 ⟨rfl, hk1⟩)
      | (go_at_call 13; refine (HN.out _ (hT.kept hk1)).mono ?_; rintro e w2 ⟨rfl, hk2⟩))
    go_ret
    exact ⟨rfl, hk1.trans hk2⟩
  rw [hN] at cN
  have HN := Lib.hid cN
  obtain ⟨hg0, hgl, _⟩ := filter_of hF
  have hfs := filterB_size hF
  obtain ⟨hns, hn0⟩ := nameB_size hN
  have cS := fun wx hT => shared_any f wx hf hT
  unfold sharedV sharedB at cS
  rw [hF] at cS
  unfold ofL at *
  rw [Bool.true_and, Bool.true_and]
  have cP := fun wx => prefix_any n ⟨#[36]⟩ wx
  rw [show (⟨#[36]⟩ : ByteArray).data.toList = [36] from rfl] at cP
  clear cF cN hN hF
  rcases hS : isShare f.data.toList with _ | _
  · rw [hS] at cS hg0 hgl
    rw [if_neg (by simp)] at hg0 hgl ⊢
    simp only [Bool.false_and, Bool.false_eq_true, if_false] at cS
    obtain ⟨g, hG⟩ : ∃ g, f.data.toList = g := ⟨_, rfl⟩
    rw [hG] at hg0 hgl ⊢
    have HS := Lib.hid cS
    have hGs : f.size = g.length := by rw [← hG, sz_list]
    have hg1 : 1 ≤ g.length := by cases g with | nil => exact absurd rfl hg0 | cons _ _ => simp
    have cW := fun wx => wild_any (f.extract 0 1) wx (by rw [ByteArray.size_extract]; omega)
    rw [show (f.extract 0 1).data.toList = g.take 1 from by rw [← hG, Lib.extract_data]; simp] at cW
    have cC := fun wx => covers_any f n wx (by omega) (by omega)
    rw [hG] at cC
    have hG1 : (1 : Int) ≤ f.size := by omega
    generalize hB : wantsL g n.data.toList = B
    unfold wantsL at hB
    generalize ([36] : List UInt8).isPrefixOf n.data.toList = D at *
    generalize coversL (lev g) (lev n.data.toList) = C at *
    generalize wildL (g.take 1) = W at *
    have HC := Lib.hid cC
    have HP := Lib.hid cP
    have HW := Lib.hid cW
    clear cS cW cC cP hG hGs hg0 hgl hg1 hS
    cases D with
    | false =>
      have HB : Hid (B = C) := Lib.hid (by rw [← hB]; simp)
      clear hB
      go_enter Tryd.func19, Tryd.ntmps19
      go_wp2_with (first
        | (go_at_call 15; refine HF.out.mono ?_; rintro e w1 ⟨rfl, hk1⟩)
        | (go_at_call 13; refine (HN.out _ (hT.kept hk1)).mono ?_; rintro e w2 ⟨rfl, hk2⟩)
        | (go_at_call 10; refine (HS.out _ ((hT.kept hk1).kept hk2)).mono ?_; rintro e w3 ⟨rfl, hk3⟩)
        | (go_at_call 38; refine (HP.out _).mono ?_; rintro e w4 ⟨rfl, rfl⟩)
        | (go_at_call 48; refine (HC.out _).mono ?_; rintro e w6 ⟨rfl, hk6⟩))
      go_ret
      exact ⟨by rw [HB.out]; rfl, ((hk1.trans hk2).trans hk3).trans hk6⟩
    | true =>
      cases W with
      | false =>
        have HB : Hid (B = C) := Lib.hid (by rw [← hB]; simp)
        clear hB
        go_enter Tryd.func19, Tryd.ntmps19
        go_wp2_with (first
          | (go_at_call 15; refine HF.out.mono ?_; rintro e w1 ⟨rfl, hk1⟩)
          | (go_at_call 13; refine (HN.out _ (hT.kept hk1)).mono ?_; rintro e w2 ⟨rfl, hk2⟩)
          | (go_at_call 10; refine (HS.out _ ((hT.kept hk1).kept hk2)).mono ?_; rintro e w3 ⟨rfl, hk3⟩)
          | (go_at_call 38; refine (HP.out _).mono ?_; rintro e w4 ⟨rfl, rfl⟩)
          | (go_at_call 17; refine (HW.out _).mono ?_; rintro e w5 ⟨rfl, hk5⟩)
          | (go_at_call 48; refine (HC.out _).mono ?_; rintro e w6 ⟨rfl, hk6⟩))
        go_ret
        exact ⟨by rw [HB.out]; rfl, (((hk1.trans hk2).trans hk3).trans hk5).trans hk6⟩
      | true =>
        have HB : Hid (B = false) := Lib.hid (by rw [← hB]; simp)
        clear hB
        go_enter Tryd.func19, Tryd.ntmps19
        go_wp2_with (first
          | (go_at_call 15; refine HF.out.mono ?_; rintro e w1 ⟨rfl, hk1⟩)
          | (go_at_call 13; refine (HN.out _ (hT.kept hk1)).mono ?_; rintro e w2 ⟨rfl, hk2⟩)
          | (go_at_call 10; refine (HS.out _ ((hT.kept hk1).kept hk2)).mono ?_; rintro e w3 ⟨rfl, hk3⟩)
          | (go_at_call 38; refine (HP.out _).mono ?_; rintro e w4 ⟨rfl, rfl⟩)
          | (go_at_call 17; refine (HW.out _).mono ?_; rintro e w5 ⟨rfl, hk5⟩))
        go_ret
        exact ⟨by rw [HB.out]; rfl, ((hk1.trans hk2).trans hk3).trans hk5⟩
  · rw [hS] at cS hg0 hgl
    rw [if_pos rfl] at hg0 hgl ⊢
    simp only [Bool.true_and, if_true] at cS
    have hG : (⟨(whatL (behind f.data.toList)).toArray⟩ : ByteArray).data.toList = whatL (behind f.data.toList) := rfl
    generalize whatL (behind f.data.toList) = g at *
    generalize hGe : (⟨g.toArray⟩ : ByteArray) = G at *
    clear hGe
    generalize whoL (behind f.data.toList) = u at *
    have HS := Lib.hid cS
    have hGs : G.size = g.length := by rw [← hG, sz_list]
    have hg1 : 1 ≤ g.length := by cases g with | nil => exact absurd rfl hg0 | cons _ _ => simp
    have cW := fun wx => wild_any (G.extract 0 1) wx (by rw [ByteArray.size_extract]; omega)
    rw [show (G.extract 0 1).data.toList = g.take 1 from by rw [← hG, Lib.extract_data]; simp] at cW
    have cC := fun wx => covers_any G n wx (by omega) (by omega)
    rw [hG] at cC
    have hG1 : (1 : Int) ≤ G.size := by omega
    generalize hB : wantsL g n.data.toList = B
    unfold wantsL at hB
    generalize ([36] : List UInt8).isPrefixOf n.data.toList = D at *
    generalize coversL (lev g) (lev n.data.toList) = C at *
    generalize wildL (g.take 1) = W at *
    have HC := Lib.hid cC
    have HP := Lib.hid cP
    have HW := Lib.hid cW
    clear cS cW cC cP hG hGs hg0 hgl hg1 hS
    cases D with
    | false =>
      have HB : Hid (B = C) := Lib.hid (by rw [← hB]; simp)
      clear hB
      go_enter Tryd.func19, Tryd.ntmps19
      go_wp2_with (first
        | (go_at_call 15; refine HF.out.mono ?_; rintro e w1 ⟨rfl, hk1⟩)
        | (go_at_call 13; refine (HN.out _ (hT.kept hk1)).mono ?_; rintro e w2 ⟨rfl, hk2⟩)
        | (go_at_call 10; refine (HS.out _ ((hT.kept hk1).kept hk2)).mono ?_; rintro e w3 ⟨rfl, hk3⟩)
        | (go_at_call 38; refine (HP.out _).mono ?_; rintro e w4 ⟨rfl, rfl⟩)
        | (go_at_call 48; refine (HC.out _).mono ?_; rintro e w6 ⟨rfl, hk6⟩))
      go_ret
      exact ⟨by rw [HB.out]; rfl, ((hk1.trans hk2).trans hk3).trans hk6⟩
    | true =>
      cases W with
      | false =>
        have HB : Hid (B = C) := Lib.hid (by rw [← hB]; simp)
        clear hB
        go_enter Tryd.func19, Tryd.ntmps19
        go_wp2_with (first
          | (go_at_call 15; refine HF.out.mono ?_; rintro e w1 ⟨rfl, hk1⟩)
          | (go_at_call 13; refine (HN.out _ (hT.kept hk1)).mono ?_; rintro e w2 ⟨rfl, hk2⟩)
          | (go_at_call 10; refine (HS.out _ ((hT.kept hk1).kept hk2)).mono ?_; rintro e w3 ⟨rfl, hk3⟩)
          | (go_at_call 38; refine (HP.out _).mono ?_; rintro e w4 ⟨rfl, rfl⟩)
          | (go_at_call 17; refine (HW.out _).mono ?_; rintro e w5 ⟨rfl, hk5⟩)
          | (go_at_call 48; refine (HC.out _).mono ?_; rintro e w6 ⟨rfl, hk6⟩))
        go_ret
        exact ⟨by rw [HB.out]; rfl, (((hk1.trans hk2).trans hk3).trans hk5).trans hk6⟩
      | true =>
        have HB : Hid (B = false) := Lib.hid (by rw [← hB]; simp)
        clear hB
        go_enter Tryd.func19, Tryd.ntmps19
        go_wp2_with (first
          | (go_at_call 15; refine HF.out.mono ?_; rintro e w1 ⟨rfl, hk1⟩)
          | (go_at_call 13; refine (HN.out _ (hT.kept hk1)).mono ?_; rintro e w2 ⟨rfl, hk2⟩)
          | (go_at_call 10; refine (HS.out _ ((hT.kept hk1).kept hk2)).mono ?_; rintro e w3 ⟨rfl, hk3⟩)
          | (go_at_call 38; refine (HP.out _).mono ?_; rintro e w4 ⟨rfl, rfl⟩)
          | (go_at_call 17; refine (HW.out _).mono ?_; rintro e w5 ⟨rfl, hk5⟩))
        go_ret
        exact ⟨by rw [HB.out]; rfl, ((hk1.trans hk2).trans hk3).trans hk5⟩

end Go.Proofs.YtcacpjdmlcclkaaDoor
