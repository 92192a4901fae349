/-
  The walk of TopicSelves.
-/
import Derived.Test.YtcacpjdmlcclkaaDoorSelF
namespace Go.Proofs.YtcacpjdmlcclkaaDoor
open Go.RowKit
set_option linter.unusedVariables false
set_option linter.unusedSimpArgs false

/-- f behind j rounds; g behind j rounds. -/
def fB (M : List (List UInt8)) (j : Nat) : ByteArray := ⟨(joinL (M.take j)).toArray⟩
def gB (L : List (List UInt8)) (j : Nat) : ByteArray := ⟨(slashL (L.take j)).toArray⟩
def xB (x : List UInt8) : ByteArray := ⟨x.toArray⟩
theorem ext_list {a b : ByteArray} (h : a.data.toList = b.data.toList) : a = b := ByteArray.ext (Array.ext' h)
theorem fB_first (M : List (List UInt8)) (h : 0 < M.length) (x : List UInt8) (hx : M[0] = x) : fB M 0 ++ xB x = fB M 1 := by
  apply ext_list
  rw [ba_app]
  show joinL (M.take 0) ++ x = joinL (M.take 1)
  rw [List.take_succ_eq_append_getElem h, hx]
  rfl
theorem fB_next (M : List (List UInt8)) (j : Nat) (h : j < M.length) (h0 : 0 < j) (x : List UInt8) (hx : M[j] = x) : fB M j ++ ⟨#[47]⟩ ++ xB x = fB M (j + 1) := by
  apply ext_list
  rw [ba_app, ba_app]
  show joinL (M.take j) ++ [47] ++ x = joinL (M.take (j + 1))
  have hne : M.take j ≠ [] := by
    intro e
    have := congrArg List.length e
    rw [List.length_take, List.length_nil] at this
    omega
  rw [List.take_succ_eq_append_getElem h, hx, join_snoc _ _ hne, List.append_assoc]
  rfl
theorem gB_next (L : List (List UInt8)) (j : Nat) (h : j < L.length) (x : List UInt8) (hx : L[j] = x) : gB L j ++ xB x ++ ⟨#[47]⟩ = gB L (j + 1) := by
  apply ext_list
  rw [ba_app, ba_app]
  show slashL (L.take j) ++ x ++ [47] = slashL (L.take (j + 1))
  rw [List.take_succ_eq_append_getElem h, hx]
  simp [slashL]
theorem fB_len (M : List (List UInt8)) (j : Nat) (h : ∀ x ∈ M, x.length ≤ 16) (hl : M.length ≤ 17) : (fB M j).size ≤ 400 := by
  have h1 := join_len (M.take j) 16 (fun x hx => h x (List.mem_of_mem_take hx))
  have h2 : (M.take j).length * (16 + 1) ≤ 17 * 17 := Nat.mul_le_mul (Nat.le_trans (List.length_take_le' _ _) hl) (Nat.le_refl _)
  show (joinL (M.take j)).toArray.size ≤ 400
  rw [List.size_toArray]
  omega
theorem gB_len (M : List (List UInt8)) (j : Nat) (h : ∀ x ∈ M, x.length ≤ 16) (hl : M.length ≤ 17) : (gB M j).size ≤ 400 := by
  have h1 := slash_len (M.take j) 16 (fun x hx => h x (List.mem_of_mem_take hx))
  have h2 : (M.take j).length * (16 + 1) ≤ 17 * 17 := Nat.mul_le_mul (Nat.le_trans (List.length_take_le' _ _) hl) (Nat.le_refl _)
  show (slashL (M.take j)).toArray.size ≤ 400
  rw [List.size_toArray]
  omega

set_option maxRecDepth 100000 in
set_option maxHeartbeats 4000000 in
theorem topicSelves_walk (s : ByteArray) (at_ : Int) (w : World) (hs : s.size ≤ maxLen) (wa : (Lit.int .i64 at_).wf = true) (hT : Tabs w) :
    Calls Tryd.prog 5 #[.string s, .int .i64 at_] w fun e w' => e = .returned (.bool true) ∧ Below w.heap.size w w' := by
  unfold maxLen at hs
  have hM := made_fix s
  have cX := tfix_any s w hs
  generalize tfixS s = T at *
  have HX := Lib.hid cX
  have hsz := hM.size
  have cL := fun wx => rlevels_any T wx (by omega)
  have h17 := hM.lev17
  have h16 := hM.lev16
  have hne := List.length_pos_iff.2 (lev_ne T.data.toList)
  have HM := Lib.hid hM
  have HP : Hid (∀ k, k < (lev T.data.toList).length → ∀ f g : ByteArray, f.data.toList = joinL ((lev T.data.toList).set k [43]) → (g.data.toList = [36, 115, 104, 97, 114, 101, 47, 120, 47] ++ f.data.toList) → matchB f T = true ∧ matchB g T = true) := Lib.hid fun k hk f g hf hg => ⟨hM.m2 k hk hf, hM.m4 k hk hf hg⟩
  have HG : Hid (∀ k, ∀ f : ByteArray, f.data.toList = joinL ((lev T.data.toList).take k ++ [[35]]) → matchB f T = true) := Lib.hid fun k f hf => hM.m3 k hf
  generalize lev T.data.toList = L at *
  have HL := Lib.hid cL
  have H16 := Lib.hid h16
  clear cX hM cL h16
  obtain ⟨k, hkd, hkl⟩ := law_mod at_ (L.length : Int) (by omega) (by omega)
  have hk : k < L.length := by omega
  go_enter Tryd.func5, Tryd.ntmps5
  go_wp2_with (first
    | (go_at_call 21; refine HX.out.mono ?_; rintro e w1 ⟨rfl, hk1⟩)
    | (go_at_call 22; refine (HL.out _).mono ?_; rintro e w2 ⟨a, c, rfl, hr, hk2⟩))
  rw [hkd]
  have hMl : (L.set k [43]).length = L.length := List.length_set
  have HMl := Lib.hid hMl
  have HM16 : Hid (∀ x ∈ L.set k [43], x.length ≤ 16) := Lib.hid fun x hx => by
    rcases set_mem hx with h | rfl
    · exact H16.out x h
    · decide
  have HMk : Hid (∀ j (h : j < (L.set k [43]).length) (h' : j < L.length), (L.set k [43])[j] = if k = j then [43] else L[j]) := Lib.hid fun j h h' => by rw [List.getElem_set]
  clear hkd hMl
  generalize hMe : L.set k [43] = M at *
  have HMe := Lib.hid hMe
  clear hMe
  go_loop [7, 8, 9] (fun f g i => ∃ (j : Nat) (fb gb : ByteArray), i = .int .i64 j ∧ j ≤ L.length ∧ f = .string fb ∧ g = .string gb ∧ Hid (fb = fB M j) ∧ Hid (gb = gB L (min j k)) ∧ fb.size ≤ 400 ∧ gb.size ≤ 400) (fun _ _ i => L.length - (intOf i).toNat)
  case atStart => exact ⟨0, ⟨#[]⟩, ⟨#[]⟩, rfl, by omega, rfl, rfl, Lib.hid rfl, Lib.hid (by rw [Nat.zero_min]; rfl), by decide, by decide⟩
  case round =>
    obtain ⟨j, fb, gb, rfl, hj, rfl, rfl, HF, HGb, hfs, hgs⟩ := hrel
    by_cases hlt : j < L.length
    · obtain ⟨b, off, rfl, hc⟩ := strs_at hr j hlt
      have hxl := H16.out _ (List.getElem_mem hlt)
      have hMj : j < M.length := by rw [HMl.out]; exact hlt
      have HK := Lib.hid (HMk.out j hMj hlt)
      have hfl := fB_len M (j + 1) HM16.out (by rw [HMl.out]; exact h17)
      have HGN := Lib.hid (gB_next L j hlt L[j] rfl)
      have hgl := gB_len L (j + 1) H16.out h17
      have HF0 := Lib.hid (fun (h : j = 0) x (hx : M[j] = x) => (by subst h; exact fB_first M hMj x hx : fB M 0 ++ xB x = fB M 1))
      have HFN := Lib.hid (fun (h : 0 < j) x (hx : M[j] = x) => fB_next M j hMj h x hx)
      generalize L[j] = y at *
      have hyb : (⟨y.toArray⟩ : ByteArray).size ≤ 16 := by show y.toArray.size ≤ 16; simpa using hxl
      rcases (show j < k ∨ j = k ∨ k < j from by omega) with hjk | hjk | hjk
      · have HKx : Hid (M[j] = y) := Lib.hid (by rw [HK.out, if_neg (by omega)])
        have hb1 : ((j : Int) == (k : Int)) = false := by simp; omega
        have hjkI : (j : Int) < k := by omega
        have HG2 : Hid (gb ++ ⟨y.toArray⟩ ++ ⟨#[47]⟩ = gB L (min (j + 1) k)) := Lib.hid (by rw [HGb.out, show min j k = j from by omega, show min (j + 1) k = j + 1 from by omega]; exact HGN.out)
        have hgs2 : (gb ++ ⟨y.toArray⟩ ++ ⟨#[47]⟩ : ByteArray).size ≤ 400 := by rw [HG2.out, show min (j + 1) k = j + 1 from by omega]; exact hgl
        by_cases h0 : j = 0
        · have HF2 : Hid (fb ++ ⟨y.toArray⟩ = fB M (j + 1)) := Lib.hid (by rw [HF.out, h0]; exact HF0.out h0 y HKx.out)
          have hfs2 : (fb ++ ⟨y.toArray⟩ : ByteArray).size ≤ 400 := by rw [HF2.out]; exact hfl
          have h0I : decide ((0 : Int) < (j : Int)) = false := by simp; omega
          have h0N : decide (0 < j) = false := by simp; omega
          have HH0 := Lib.hid h0
          clear h0
          go_wp2
          go_round
          case rel => exact ⟨j + 1, _, _, by go_num, by omega, rfl, rfl, HF2, HG2, hfs2, hgs2⟩
          case measure => simp [intOf]; omega
        · have h0I : (0 : Int) < j := by omega
          have HF2 : Hid (fb ++ ⟨#[47]⟩ ++ ⟨y.toArray⟩ = fB M (j + 1)) := Lib.hid (by rw [HF.out]; exact HFN.out (by omega) y HKx.out)
          have hfs2 : (fb ++ ⟨#[47]⟩ ++ ⟨y.toArray⟩ : ByteArray).size ≤ 400 := by rw [HF2.out]; exact hfl
          clear h0
          go_wp2
          go_round
          case rel => exact ⟨j + 1, _, _, by go_num, by omega, rfl, rfl, HF2, HG2, hfs2, hgs2⟩
          case measure => simp [intOf]; omega
      · have HKx : Hid (M[j] = [43]) := Lib.hid (by rw [HK.out, if_pos hjk.symm])
        have hb1 : ((j : Int) == (k : Int)) = true := by simp; omega
        have hjkI : decide ((j : Int) < (k : Int)) = false := by simp; omega
        have hjkN : decide (j < k) = false := by simp; omega
        have HG2 : Hid (gb = gB L (min (j + 1) k)) := Lib.hid (by rw [HGb.out, show min j k = min (j + 1) k from by omega])
        clear hjk
        by_cases h0 : j = 0
        · have HF2 : Hid (fb ++ ⟨#[43]⟩ = fB M (j + 1)) := Lib.hid (by rw [HF.out, h0]; exact HF0.out h0 [43] HKx.out)
          have hfs2 : (fb ++ ⟨#[43]⟩ : ByteArray).size ≤ 400 := by rw [HF2.out]; exact hfl
          have h0I : decide ((0 : Int) < (j : Int)) = false := by simp; omega
          have h0N : decide (0 < j) = false := by simp; omega
          have HH0 := Lib.hid h0
          clear h0
          go_wp2
          go_round
          case rel => exact ⟨j + 1, _, _, by go_num, by omega, rfl, rfl, HF2, HG2, hfs2, hgs⟩
          case measure => simp [intOf]; omega
        · have h0I : (0 : Int) < j := by omega
          have HF2 : Hid (fb ++ ⟨#[47]⟩ ++ ⟨#[43]⟩ = fB M (j + 1)) := Lib.hid (by rw [HF.out]; exact HFN.out (by omega) [43] HKx.out)
          have hfs2 : (fb ++ ⟨#[47]⟩ ++ ⟨#[43]⟩ : ByteArray).size ≤ 400 := by rw [HF2.out]; exact hfl
          clear h0
          go_wp2
          go_round
          case rel => exact ⟨j + 1, _, _, by go_num, by omega, rfl, rfl, HF2, HG2, hfs2, hgs⟩
          case measure => simp [intOf]; omega
      · have HKx : Hid (M[j] = y) := Lib.hid (by rw [HK.out, if_neg (by omega)])
        have hb1 : ((j : Int) == (k : Int)) = false := by simp; omega
        have hjkI : decide ((j : Int) < (k : Int)) = false := by simp; omega
        have hjkN : decide (j < k) = false := by simp; omega
        have HG2 : Hid (gb = gB L (min (j + 1) k)) := Lib.hid (by rw [HGb.out, show min j k = min (j + 1) k from by omega])
        · have h0 : ¬ j = 0 := by omega
          have h0I : (0 : Int) < j := by omega
          have HF2 : Hid (fb ++ ⟨#[47]⟩ ++ ⟨y.toArray⟩ = fB M (j + 1)) := Lib.hid (by rw [HF.out]; exact HFN.out (by omega) y HKx.out)
          have hfs2 : (fb ++ ⟨#[47]⟩ ++ ⟨y.toArray⟩ : ByteArray).size ≤ 400 := by rw [HF2.out]; exact hfl
          clear h0
          go_wp2
          go_round
          case rel => exact ⟨j + 1, _, _, by go_num, by omega, rfl, rfl, HF2, HG2, hfs2, hgs⟩
          case measure => simp [intOf]; omega
    · have hje : j = L.length := by omega
      subst hje
      have HFl : Hid (fb.data.toList = joinL M) := Lib.hid (by rw [HF.out]; show joinL (M.take _) = joinL M; rw [List.take_of_length_le (by rw [HMl.out]; exact Nat.le_refl _)])
      have HGl : Hid (gb.data.toList = slashL (L.take k)) := Lib.hid (by rw [HGb.out, show min L.length k = k from by omega]; rfl)
      have hD : ((⟨#[36]⟩ : ByteArray) ++ T).data.toList = 36 :: T.data.toList := by rw [ba_app]; rfl
      have hDs : ((⟨#[36]⟩ : ByteArray) ++ T).size ≤ 17 := by rw [ByteArray.size_append]; have := hsz.2; show 1 + T.size ≤ 17; omega
      have hm24 := fun g hg => HP.out k hk fb g (by rw [HMe.out]; exact HFl.out) hg
      have mk : ∀ (x y : ByteArray) (b : Bool), matchB x y = b → x.size ≤ 1000 → y.size ≤ 1000 → Hid (∀ wx, Tabs wx → Calls Tryd.prog 19 #[.string x, .string y] wx fun e w' => e = .returned (.bool b) ∧ Kept No wx w') := fun x y b hb hx hy => Lib.hid fun wx hT => by
        have h := match_any x y wx (by omega) (by omega) hT
        rw [hb] at h
        exact h
      have hss : ((⟨#[36, 115, 104, 97, 114, 101, 47, 120, 47]⟩ : ByteArray) ++ fb).size ≤ 1000 := by rw [ByteArray.size_append]; show 9 + fb.size ≤ 1000; omega
      have hgss : (gb ++ (⟨#[35]⟩ : ByteArray)).size ≤ 1000 := by rw [ByteArray.size_append]; show gb.size + 1 ≤ 1000; omega
      have hsl : ((⟨#[36, 115, 104, 97, 114, 101, 47, 120, 47]⟩ : ByteArray) ++ fb).data.toList = [36, 115, 104, 97, 114, 101, 47, 120, 47] ++ fb.data.toList := by rw [ba_app]
      have hT17 : T.size ≤ 1000 := by have := hsz.2; omega
      have M1 := mk T T true HM.out.m1 hT17 hT17
      have M2 := mk fb T true (hm24 _ hsl).1 (by omega) hT17
      have M3 := mk (gb ++ ⟨#[35]⟩) T true (HG.out k _ (by rw [ba_app, HGl.out, ← slash_join])) hgss hT17
      have M4 := mk (⟨#[36, 115, 104, 97, 114, 101, 47, 120, 47]⟩ ++ fb) T true (hm24 _ hsl).2 hss hT17
      have M5 := mk ⟨#[35]⟩ T true HM.out.m5 (by decide) hT17
      have M6 := mk ⟨#[35]⟩ (⟨#[36]⟩ ++ T) false (HM.out.m6 hD) (by decide) (by omega)
      have M7 := mk ⟨#[43, 47, 35]⟩ (⟨#[36]⟩ ++ T) false (HM.out.m7 hD) (by decide) (by omega)
      have M8 := mk (⟨#[36]⟩ ++ T) (⟨#[36]⟩ ++ T) true (HM.out.m8 hD) (by omega) (by omega)
      clear mk hm24 hsl hD hlt
      have HT := Lib.hid (fun wx hT => told4_any wx hT)
      have hK := hk1.trans hk2
      clear hr
      go_wp2_with (first
        | (go_at_call 12; refine (HT.out _ (hT.kept hK)).mono ?_; rintro e w5 ⟨rfl, hk⟩; have hK := hK.trans hk)
        | (go_at_call 19; (with_reducible refine (M1.out _ (hT.kept hK)).mono ?_); rintro e w5 ⟨rfl, hk⟩; have hK := hK.trans hk)
        | (go_at_call 19; (with_reducible refine (M2.out _ (hT.kept hK)).mono ?_); rintro e w5 ⟨rfl, hk⟩; have hK := hK.trans hk)
        | (go_at_call 19; (with_reducible refine (M3.out _ (hT.kept hK)).mono ?_); rintro e w5 ⟨rfl, hk⟩; have hK := hK.trans hk)
        | (go_at_call 19; (with_reducible refine (M4.out _ (hT.kept hK)).mono ?_); rintro e w5 ⟨rfl, hk⟩; have hK := hK.trans hk)
        | (go_at_call 19; (with_reducible refine (M5.out _ (hT.kept hK)).mono ?_); rintro e w5 ⟨rfl, hk⟩; have hK := hK.trans hk)
        | (go_at_call 19; (with_reducible refine (M6.out _ (hT.kept hK)).mono ?_); rintro e w5 ⟨rfl, hk⟩; have hK := hK.trans hk)
        | (go_at_call 19; (with_reducible refine (M7.out _ (hT.kept hK)).mono ?_); rintro e w5 ⟨rfl, hk⟩; have hK := hK.trans hk)
        | (go_at_call 19; (with_reducible refine (M8.out _ (hT.kept hK)).mono ?_); rintro e w5 ⟨rfl, hk⟩; have hK := hK.trans hk))
      go_ret
      exact ⟨rfl, hK.below (Nat.le_refl _) (fun _ _ f => f)⟩

end Go.Proofs.YtcacpjdmlcclkaaDoor
