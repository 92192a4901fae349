/-
  The law's own small example of topic, and the walks of TopicTells and TopicMatches.
-/
import Derived.Test.YtcacpjdmlcclkaaDoorTopRn
namespace Go.Proofs.YtcacpjdmlcclkaaDoor
open Go.RowKit
set_option linter.unusedVariables false
set_option linter.unusedSimpArgs false

theorem beq_self_t (b : Bool) : (b == b) = true := by cases b <;> rfl
theorem shared_told (w : World) (hT : Tabs w) : Calls Tryd.prog 10 #[.string ⟨#[36, 115, 104, 97, 114, 101, 47, 103, 47, 97, 47, 43]⟩] w fun e w' => e = .returned (.tuple #[.string ⟨#[103]⟩, .string ⟨#[97, 47, 43]⟩, .bool true]) ∧ Kept No w w' := by
  have h := shared_any ⟨#[36, 115, 104, 97, 114, 101, 47, 103, 47, 97, 47, 43]⟩ w (by decide) hT
  have e1 : sharedB ⟨#[36, 115, 104, 97, 114, 101, 47, 103, 47, 97, 47, 43]⟩ = true := by decide +kernel
  have e2 : whoL (behind (⟨#[36, 115, 104, 97, 114, 101, 47, 103, 47, 97, 47, 43]⟩ : ByteArray).data.toList) = [103] := by decide +kernel
  have e3 : whatL (behind (⟨#[36, 115, 104, 97, 114, 101, 47, 103, 47, 97, 47, 43]⟩ : ByteArray).data.toList) = [97, 47, 43] := by decide +kernel
  unfold sharedV at h
  rw [e1, if_pos rfl, e2, e3] at h
  exact h
theorem match_told (f n : ByteArray) (b : Bool) (hb : matchB f n = b) (hf : f.size ≤ 100) (hn : n.size ≤ 100) (w : World) (hT : Tabs w) : Calls Tryd.prog 19 #[.string f, .string n] w fun e w' => e = .returned (.bool b) ∧ Kept No w w' := by
  have h := match_any f n w (by omega) (by omega) hT
  rw [hb] at h
  exact h
theorem filter_told (f : ByteArray) (b : Bool) (hb : filterB f = b) (hf : f.size ≤ 100) (w : World) (hT : Tabs w) : Calls Tryd.prog 15 #[.string f] w fun e w' => e = .returned (.bool b) ∧ Kept No w w' := by
  have h := filter_any f w (by omega) hT
  rw [hb] at h
  exact h
theorem name_told (f : ByteArray) (b : Bool) (hb : nameB f = b) (hf : f.size ≤ 100) (w : World) (hT : Tabs w) : Calls Tryd.prog 13 #[.string f] w fun e w' => e = .returned (.bool b) ∧ Kept No w w' := by
  have h := name_any f w (by omega) hT
  rw [hb] at h
  exact h

set_option maxRecDepth 100000 in
set_option maxHeartbeats 2000000 in
theorem told4_any (w : World) (hT : Tabs w) : Calls Tryd.prog 12 #[] w fun e w' => e = .returned (.bool true) ∧ Kept No w w' := by
  have M1 := Lib.hid (match_told ⟨#[97, 47, 43, 47, 99]⟩ ⟨#[97, 47, 98, 47, 99]⟩ true (by decide +kernel) (by decide) (by decide))
  have M2 := Lib.hid (match_told ⟨#[97, 47, 43, 47, 99]⟩ ⟨#[97, 47, 47, 99]⟩ true (by decide +kernel) (by decide) (by decide))
  have M3 := Lib.hid (match_told ⟨#[97, 47, 43, 47, 99]⟩ ⟨#[97, 47, 98]⟩ false (by decide +kernel) (by decide) (by decide))
  have M4 := Lib.hid (match_told ⟨#[97, 47, 35]⟩ ⟨#[97]⟩ true (by decide +kernel) (by decide) (by decide))
  have M5 := Lib.hid (match_told ⟨#[35]⟩ ⟨#[36, 120]⟩ false (by decide +kernel) (by decide) (by decide))
  have F1 := Lib.hid (filter_told ⟨#[97, 47, 35, 47, 98]⟩ false (by decide +kernel) (by decide))
  have F2 := Lib.hid (filter_told ⟨#[36, 115, 104, 97, 114, 101, 47, 103]⟩ false (by decide +kernel) (by decide))
  have N1 := Lib.hid (name_told ⟨#[97]⟩ true (by decide +kernel) (by decide))
  have N2 := Lib.hid (name_told ⟨#[43]⟩ false (by decide +kernel) (by decide))
  have hK := Kept.refl No w
  go_enter Tryd.func12, Tryd.ntmps12
  go_wp2_with (first
    | (go_at_call 10; (with_reducible refine (shared_told _ (hT.kept hK)).mono ?_); rintro e w1 ⟨rfl, hk⟩; have hK := hK.trans hk)
    | (go_at_call 19; (with_reducible refine (M1.out _ (hT.kept hK)).mono ?_); rintro e w1 ⟨rfl, hk⟩; have hK := hK.trans hk)
    | (go_at_call 19; (with_reducible refine (M2.out _ (hT.kept hK)).mono ?_); rintro e w1 ⟨rfl, hk⟩; have hK := hK.trans hk)
    | (go_at_call 19; (with_reducible refine (M3.out _ (hT.kept hK)).mono ?_); rintro e w1 ⟨rfl, hk⟩; have hK := hK.trans hk)
    | (go_at_call 19; (with_reducible refine (M4.out _ (hT.kept hK)).mono ?_); rintro e w1 ⟨rfl, hk⟩; have hK := hK.trans hk)
    | (go_at_call 19; (with_reducible refine (M5.out _ (hT.kept hK)).mono ?_); rintro e w1 ⟨rfl, hk⟩; have hK := hK.trans hk)
    | (go_at_call 15; (with_reducible refine (F1.out _ (hT.kept hK)).mono ?_); rintro e w1 ⟨rfl, hk⟩; have hK := hK.trans hk)
    | (go_at_call 15; (with_reducible refine (F2.out _ (hT.kept hK)).mono ?_); rintro e w1 ⟨rfl, hk⟩; have hK := hK.trans hk)
    | (go_at_call 13; (with_reducible refine (N1.out _ (hT.kept hK)).mono ?_); rintro e w1 ⟨rfl, hk⟩; have hK := hK.trans hk)
    | (go_at_call 13; (with_reducible refine (N2.out _ (hT.kept hK)).mono ?_); rintro e w1 ⟨rfl, hk⟩; have hK := hK.trans hk))
  go_ret
  exact ⟨rfl, hK⟩

set_option maxRecDepth 100000 in
set_option maxHeartbeats 2000000 in
theorem topicMatches_walk (s t : ByteArray) (w : World) (hs : s.size ≤ maxLen) (ht : t.size ≤ maxLen) (hT : Tabs w) :
    Calls Tryd.prog 4 #[.string s, .string t] w fun e w' => e = .returned (.bool true) ∧ Below w.heap.size w w' := by
  unfold maxLen at hs ht
  go_enter Tryd.func4, Tryd.ntmps4
  have h1 : (s.extract 0 (min (s.size : Int) 200).toNat).size ≤ 200 := by rw [ByteArray.size_extract]; omega
  have h2 : (t.extract 0 (min (t.size : Int) 200).toNat).size ≤ 200 := by rw [ByteArray.size_extract]; omega
  go_wp2_with fail
  go_quiet (fail)
  have hK := (Kept.refl No w).drewN nq
  generalize w.drewN nq = wq at *
  generalize s.extract 0 (min (s.size : Int) 200).toNat = f at *
  generalize t.extract 0 (min (t.size : Int) 200).toNat = n at *
  have HT := Lib.hid (fun wx hT => told4_any wx hT)
  have cM := fun wx hT => match_any f n wx (by omega) (by omega) hT
  have cR := fun wx => rmatch_any f n wx (by omega) (by omega)
  generalize matchB f n = B at *
  have HM := Lib.hid cM
  have HR := Lib.hid cR
  have hb := beq_self_t B
  clear cM cR
  go_wp2_with (first
    | (go_at_call 12; refine (HT.out _ (hT.kept hK)).mono ?_; rintro e w1 ⟨rfl, hk⟩; have hK := hK.trans hk)
    | (go_at_call 19; refine (HM.out _ (hT.kept hK)).mono ?_; rintro e w1 ⟨rfl, hk⟩; have hK := hK.trans hk)
    | (go_at_call 20; refine (HR.out _).mono ?_; rintro e w1 ⟨rfl, hk⟩; have hK := hK.trans hk))
  go_ret
  exact ⟨by first | rfl | simp, hK.below (Nat.le_refl _) (fun _ _ f => f)⟩

set_option maxRecDepth 100000 in
set_option maxHeartbeats 2000000 in
theorem topicTells_walk (s : ByteArray) (w : World) (hs : s.size ≤ maxLen) (hT : Tabs w) :
    Calls Tryd.prog 3 #[.string s] w fun e w' => e = .returned (.bool true) ∧ Below w.heap.size w w' := by
  unfold maxLen at hs
  go_enter Tryd.func3, Tryd.ntmps3
  have h1 : (s.extract 0 (min (s.size : Int) 300).toNat).size ≤ 300 := by rw [ByteArray.size_extract]; omega
  go_upto_region 2 with fail
  generalize s.extract 0 (min (s.size : Int) 300).toNat = f at *
  have HT := Lib.hid (fun wx hT => told4_any wx hT)
  have cN := fun wx hT => name_any f wx (by omega) hT
  have rN := fun wx => rname_any f wx (by omega)
  have cF := fun wx hT => filter_any f wx (by omega) hT
  have rF := fun wx => rfilter_any f wx (by omega)
  have cW := fun wx => wild_any f wx (by omega)
  have rW := fun wx => rwild_any f wx (by omega)
  have cS := fun wx hT => shared_any f wx (by omega) hT
  have rS := fun wx => rshared_any f wx (by omega)
  obtain ⟨x, y, b, hv⟩ : ∃ x y b, sharedV f = .tuple #[.string x, .string y, .bool b] := by
    unfold sharedV
    split
    · exact ⟨_, _, _, rfl⟩
    · exact ⟨_, _, _, rfl⟩
  rw [hv] at cS rS
  generalize nameB f = b1 at *
  generalize filterB f = b2 at *
  generalize wildL f.data.toList = b3 at *
  have HN := Lib.hid cN
  have HN' := Lib.hid rN
  have HF := Lib.hid cF
  have HF' := Lib.hid rF
  have HW := Lib.hid cW
  have HW' := Lib.hid rW
  have HS := Lib.hid cS
  have HS' := Lib.hid rS
  have hb1 := beq_self_t b1
  have hb2 := beq_self_t b2
  have hb3 := beq_self_t b3
  have hb4 := beq_self_t b
  clear cN rN cF rF cW rW cS rS hv
  have hK := Kept.refl No w
  go_wp2_with (first
    | (go_at_call 10; refine (HS.out _ (hT.kept hK)).mono ?_; rintro e w1 ⟨rfl, hk⟩; have hK := hK.trans hk)
    | (go_at_call 11; refine (HS'.out _).mono ?_; rintro e w1 ⟨rfl, hk⟩; have hK := hK.trans hk)
    | (go_at_call 12; refine (HT.out _ (hT.kept hK)).mono ?_; rintro e w1 ⟨rfl, hk⟩; have hK := hK.trans hk)
    | (go_at_call 13; refine (HN.out _ (hT.kept hK)).mono ?_; rintro e w1 ⟨rfl, hk⟩; have hK := hK.trans hk)
    | (go_at_call 14; refine (HN'.out _).mono ?_; rintro e w1 ⟨rfl, hk⟩; have hK := hK.trans hk)
    | (go_at_call 15; refine (HF.out _ (hT.kept hK)).mono ?_; rintro e w1 ⟨rfl, hk⟩; have hK := hK.trans hk)
    | (go_at_call 16; refine (HF'.out _).mono ?_; rintro e w1 ⟨rfl, hk⟩; have hK := hK.trans hk)
    | (go_at_call 17; refine (HW.out _).mono ?_; rintro e w1 ⟨rfl, hk⟩; have hK := hK.trans hk)
    | (go_at_call 18; refine (HW'.out _).mono ?_; rintro e w1 ⟨rfl, rfl⟩))
  go_ret
  exact ⟨by first | rfl | simp, hK.below (Nat.le_refl _) (fun _ _ f => f)⟩

end Go.Proofs.YtcacpjdmlcclkaaDoor
