/-
  The walk of TopicDeeper.
-/
import Derived.Test.YtcacpjdmlcclkaaDoorDeepF
namespace Go.Proofs.YtcacpjdmlcclkaaDoor
open Go.RowKit
set_option linter.unusedVariables false
set_option linter.unusedSimpArgs false

theorem snoc2 (M : List (List UInt8)) (a b : List UInt8) (h : M ≠ []) : joinL (M ++ [a, b]) = joinL M ++ 47 :: a ++ 47 :: b := by
  rw [show M ++ [a, b] = M ++ [a] ++ [b] by simp, join_snoc _ _ (by simp), join_snoc _ _ h]
theorem okLev_snoc : ∀ (M : List (List UInt8)), (∀ x ∈ M, wildL x = false ∨ x = [43]) → ∀ a : List UInt8, (wildL a = false ∨ a = [43]) → okLev (M ++ [a]) = true := fun M h a ha =>
  okLev_all _ fun x hx => by
    rcases List.mem_append.1 hx with hx | hx
    · exact h x hx
    · simp at hx; subst hx; exact ha
theorem ff_len (l : List UInt8) : (ffL l).length ≤ 40 := by
  have h1 := join_len (fM l) 1 (fun x hx => (fM_lv l x hx).1.short)
  have h2 := fM_len l
  have h3 : (fM l).length * (1 + 1) ≤ 7 * 2 := Nat.mul_le_mul h2 (Nat.le_refl _)
  unfold ffL ff2 ff1
  split
  · simp
  · split
    · split
      · simp only [List.length_append, List.length_cons, List.length_nil]; omega
      · simp only [List.length_append, List.length_cons, List.length_nil]; omega
    · split
      · simp only [List.length_append, List.length_cons, List.length_nil]; omega
      · omega
theorem ff_ne (l : List UInt8) : ffL l ≠ [] := by
  have h1 : joinL (fM l) ≠ [] := join_mem_ne (fM l) [116] (by simp [fM]) (by simp)
  unfold ffL ff2 ff1
  split
  · simp
  · split
    · simp
    · split
      · simp
      · exact h1

set_option maxRecDepth 100000 in
set_option maxHeartbeats 4000000 in
theorem topicDeeper_walk (s t : ByteArray) (w : World) (hs : s.size ≤ maxLen) (ht : t.size ≤ maxLen) (hT : Tabs w) :
    Calls Tryd.prog 6 #[.string s, .string t] w fun e w' => e = .returned (.bool true) ∧ Below w.heap.size w w' := by
  unfold maxLen at hs ht
  have hMade := made_fix t
  have cX := fun wx => tfix_any t wx ht
  generalize tfixS t = T at *
  have hTs := hMade.size
  have h6 : (s.extract 0 (min (s.size : Int) 6).toNat).size ≤ 6 := by rw [ByteArray.size_extract]; omega
  have cF := fun wx => ffix_any (s.extract 0 (min (s.size : Int) 6).toNat) wx (by omega)
  have hF1 := ff_len (s.extract 0 (min (s.size : Int) 6).toNat).data.toList
  have hF2 := ff_ne (s.extract 0 (min (s.size : Int) 6).toNat).data.toList
  have hF3 := ff_form (s.extract 0 (min (s.size : Int) 6).toNat).data.toList
  have hF4 := fM_lv (s.extract 0 (min (s.size : Int) 6).toNat).data.toList
  have hF5 := fM_len (s.extract 0 (min (s.size : Int) 6).toNat).data.toList
  have hF6 : joinL (fM (s.extract 0 (min (s.size : Int) 6).toNat).data.toList) ≠ [] := join_mem_ne _ [116] (by simp [fM]) (by simp)
  have hF7 : fM (s.extract 0 (min (s.size : Int) 6).toNat).data.toList ≠ [] := by simp [fM]
  have hfl : (ffS (s.extract 0 (min (s.size : Int) 6).toNat)).data.toList = ffL (s.extract 0 (min (s.size : Int) 6).toNat).data.toList := rfl
  generalize ffS (s.extract 0 (min (s.size : Int) 6).toNat) = f at *
  generalize ffL (s.extract 0 (min (s.size : Int) 6).toNat).data.toList = fl at *
  generalize fM (s.extract 0 (min (s.size : Int) 6).toNat).data.toList = M at *
  have HC0 := Lib.hid (fun wx => cF wx)
  clear cF
  have HX := Lib.hid cX
  clear cX
  subst hfl
  have hf0 : 0 < f.size := by rw [← sz_list]; exact List.length_pos_iff.2 hF2
  have hf40 : f.size ≤ 40 := by rw [← sz_list]; exact hF1
  have H0 := Lib.hid (fun wx hT => told4_any wx hT)
  have hlast1 : (0 : Int) ≤ (f.size : Int) - 1 := by omega
  have hlast2 : ((f.size : Int) - 1).toNat = f.size - 1 := by omega
  have hlast3 : (1 : Int) ≤ f.size := by omega
  have hlt9 : f.size - 1 < f.size := by omega
  have HL := Lib.hid (last_form f hf0)
  by_cases h35 : (f[f.size - 1]'(by omega)) = 35
  · have e35 : (((f[f.size - 1]'(by omega)).toNat : Int) == 35) = true := byte_beq h35
    clear h35 hF1 hF2 hF3 hF4 hF5 hF6 hF7
    have hK := Kept.refl No w
    go_enter Tryd.func6, Tryd.ntmps6
    go_wp2_with (first
      | (go_at_call 23; refine (HC0.out _).mono ?_; rintro e w1 ⟨rfl, hk⟩; have hK := hK.trans hk)
      | (go_at_call 21; refine (HX.out _).mono ?_; rintro e w1 ⟨rfl, hk⟩; have hK := hK.trans hk)
      | (go_at_call 12; refine (H0.out _ (hT.kept hK)).mono ?_; rintro e w1 ⟨rfl, hk⟩; have hK := hK.trans hk))
    go_ret
    exact ⟨rfl, hK.below (Nat.le_refl _) (fun _ _ f => f)⟩
  · have e35 : (((f[f.size - 1]'(by omega)).toNat : Int) == 35) = false := byte_bne h35
    obtain ⟨b, hb⟩ := hF3 (HL.out h35)
    have hn2 : ((⟨#[116, 47]⟩ : ByteArray) ++ T).data.toList = [116, 47] ++ T.data.toList := by rw [ba_app]
    have hns : ((⟨#[116, 47]⟩ : ByteArray) ++ T).size ≤ 18 ∧ 0 < ((⟨#[116, 47]⟩ : ByteArray) ++ T).size := by
      rw [ByteArray.size_append]
      show 2 + T.size ≤ 18 ∧ 0 < 2 + T.size
      omega
    have hns1 := hns.1
    have D : Deep T f (⟨#[116, 47]⟩ ++ T) M b := ⟨hMade, hb, hn2, hF7, hF6, hF4, hF5⟩
    have hw : ∀ x ∈ M, wildL x = false ∨ x = [43] := fun x hx => (hF4 x hx).2.1
    have h35' : ∀ x ∈ M, ¬ x = [35] := fun x hx => (hF4 x hx).2.2
    have lx : Lv [120] ∧ wildL [120] = false := ⟨lv_one (by decide) (by decide) (by decide) (by decide), by decide⟩
    have ly : Lv [121] ∧ wildL [121] = false := ⟨lv_one (by decide) (by decide) (by decide) (by decide), by decide⟩
    have lz : Lv [122] ∧ wildL [122] = false := ⟨lv_one (by decide) (by decide) (by decide) (by decide), by decide⟩
    have lp : Lv [43] := lv_one (by decide) (by decide) (by decide) (by decide)
    have lh : Lv [35] := lv_one (by decide) (by decide) (by decide) (by decide)
    have app2 : ∀ (x y : ByteArray), (x ++ y).size = x.size + y.size := fun x y => ByteArray.size_append
    have m0 : matchB f (⟨#[116, 47]⟩ ++ T) = coversL M (nlev T) := by
      have := D.matches [] [] (by simp) (by simp) (by rw [List.append_nil]; exact okLev_all _ hw) (by simp) (by simp) (g := f) (m := ⟨#[116, 47]⟩ ++ T) (by rw [List.append_nil]; exact hb) (by rw [List.append_nil]; exact hF6) (by rw [List.append_nil, n_join, hn2]) hns.2 (by omega)
      simpa using this
    have fl1 : ∀ c : UInt8, (f ++ ⟨#[47, c]⟩).data.toList = preL b ++ joinL (M ++ [[c]]) := fun c => by
      rw [ba_app, hb, join_snoc _ _ hF7, List.append_assoc]
    have nl1 : ∀ c : UInt8, ((⟨#[116, 47]⟩ : ByteArray) ++ T ++ ⟨#[47, c]⟩).data.toList = joinL (nlev T ++ [[c]]) := fun c => by
      rw [ba_app, hn2, join_snoc _ _ (by simp [nlev]), n_join]
    have nl2 : ((⟨#[116, 47]⟩ : ByteArray) ++ T ++ ⟨#[47, 121, 47, 122]⟩).data.toList = joinL (nlev T ++ [[121], [122]]) := by
      rw [ba_app, hn2, snoc2 _ _ _ (by simp [nlev]), n_join]
      simp
    have ns1 : ∀ c : UInt8, ((⟨#[116, 47]⟩ : ByteArray) ++ T ++ ⟨#[47, c]⟩).size ≤ 30 ∧ 0 < ((⟨#[116, 47]⟩ : ByteArray) ++ T ++ ⟨#[47, c]⟩).size := fun c => by
      have := app2 ((⟨#[116, 47]⟩ : ByteArray) ++ T) ⟨#[47, c]⟩
      rw [this]
      have h2 : (⟨#[47, c]⟩ : ByteArray).size = 2 := rfl
      omega
    have ns2 : ((⟨#[116, 47]⟩ : ByteArray) ++ T ++ ⟨#[47, 121, 47, 122]⟩).size ≤ 30 ∧ 0 < ((⟨#[116, 47]⟩ : ByteArray) ++ T ++ ⟨#[47, 121, 47, 122]⟩).size := by
      have := app2 ((⟨#[116, 47]⟩ : ByteArray) ++ T) ⟨#[47, 121, 47, 122]⟩
      rw [this]
      have h2 : (⟨#[47, 121, 47, 122]⟩ : ByteArray).size = 4 := rfl
      omega
    have fs1 : ∀ c : UInt8, (f ++ ⟨#[47, c]⟩).size ≤ 60 := fun c => by
      rw [app2]
      have h2 : (⟨#[47, c]⟩ : ByteArray).size = 2 := rfl
      omega
    have jne : ∀ c : UInt8, joinL (M ++ [[c]]) ≠ [] := fun c => join_mem_ne _ [c] (by simp) (by simp)
    have m1 : matchB (f ++ ⟨#[47, 120]⟩) (⟨#[116, 47]⟩ ++ T ++ ⟨#[47, 120]⟩) = coversL M (nlev T) := by
      rw [D.matches [[120]] [[120]] (by simp; exact lx.1) (by simp) (okLev_snoc M hw _ (.inl lx.2)) (by simp; exact lx) (by simp) (fl1 120) (jne 120) (nl1 120) (ns1 120).2 (by have := (ns1 120).1; omega), covers_snoc _ _ (by decide) _ _ h35']
      simp
    have m2 : matchB (f ++ ⟨#[47, 120]⟩) (⟨#[116, 47]⟩ ++ T ++ ⟨#[47, 121]⟩) = false := by
      rw [D.matches [[120]] [[121]] (by simp; exact lx.1) (by simp) (okLev_snoc M hw _ (.inl lx.2)) (by simp; exact ly) (by simp) (fl1 120) (jne 120) (nl1 121) (ns1 121).2 (by have := (ns1 121).1; omega), covers_snoc _ _ (by decide) _ _ h35']
      simp
    have m3 : matchB (f ++ ⟨#[47, 43]⟩) (⟨#[116, 47]⟩ ++ T ++ ⟨#[47, 121]⟩) = coversL M (nlev T) := by
      rw [D.matches [[43]] [[121]] (by simp; exact lp) (by simp) (okLev_snoc M hw _ (.inr rfl)) (by simp; exact ly) (by simp) (fl1 43) (jne 43) (nl1 121) (ns1 121).2 (by have := (ns1 121).1; omega), covers_snoc _ _ (by decide) _ _ h35']
      simp
    have m4 : coversL M (nlev T) = true → matchB (f ++ ⟨#[47, 35]⟩) (⟨#[116, 47]⟩ ++ T ++ ⟨#[47, 121, 47, 122]⟩) = true := fun hc => by
      rw [D.matches [[35]] [[121], [122]] (by simp; exact lh) (by simp) (okLev_hash M hw) (by simp; exact ⟨ly, lz⟩) (by simp) (fl1 35) (jne 35) nl2 ns2.2 (by have := ns2.1; omega)]
      exact covers_more _ _ _ h35' hc
    have mk : ∀ (x y : ByteArray) (b : Bool), matchB x y = b → x.size ≤ 1000 → y.size ≤ 1000 → Hid (∀ wx, Tabs wx → Calls Tryd.prog 19 #[.string x, .string y] wx fun e w' => e = .returned (.bool b) ∧ Kept No wx w') := fun x y b hb hx hy => Lib.hid fun wx hT => by
      have h := match_any x y wx (by omega) (by omega) hT
      rw [hb] at h
      exact h
    generalize coversL M (nlev T) = C at *
    have M0 := mk _ _ C m0 (by omega) (by omega)
    have M1 := mk _ _ C m1 (by have := fs1 120; omega) (by have := (ns1 120).1; omega)
    have M2 := mk _ _ false m2 (by have := fs1 120; omega) (by have := (ns1 121).1; omega)
    have M3 := mk _ _ C m3 (by have := fs1 43; omega) (by have := (ns1 121).1; omega)
    have M4 := Lib.hid (fun hc => mk _ _ true (m4 hc) (by have := fs1 35; omega) (by have := ns2.1; omega))
    clear mk m0 m1 m2 m3 m4 fl1 nl1 nl2 ns1 ns2 fs1 jne app2 lx ly lz lp lh hw h35' D hns hn2 hb h35 hF1 hF2 hF4 hF5 hF6 hF7
    have hK := Kept.refl No w
    cases C with
    | false =>
      go_enter Tryd.func6, Tryd.ntmps6
      go_wp2_with (first
        | (go_at_call 23; refine (HC0.out _).mono ?_; rintro e w1 ⟨rfl, hk⟩; have hK := hK.trans hk)
        | (go_at_call 21; refine (HX.out _).mono ?_; rintro e w1 ⟨rfl, hk⟩; have hK := hK.trans hk)
        | (go_at_call 12; refine (H0.out _ (hT.kept hK)).mono ?_; rintro e w1 ⟨rfl, hk⟩; have hK := hK.trans hk)
        | (go_at_call 19; (with_reducible refine (M0.out _ (hT.kept hK)).mono ?_); rintro e w1 ⟨rfl, hk⟩; have hK := hK.trans hk)
        | (go_at_call 19; (with_reducible refine (M1.out _ (hT.kept hK)).mono ?_); rintro e w1 ⟨rfl, hk⟩; have hK := hK.trans hk)
        | (go_at_call 19; (with_reducible refine (M2.out _ (hT.kept hK)).mono ?_); rintro e w1 ⟨rfl, hk⟩; have hK := hK.trans hk)
        | (go_at_call 19; (with_reducible refine (M3.out _ (hT.kept hK)).mono ?_); rintro e w1 ⟨rfl, hk⟩; have hK := hK.trans hk))
      go_ret
      exact ⟨rfl, hK.below (Nat.le_refl _) (fun _ _ f => f)⟩
    | true =>
      have M4' := M4.out rfl
      go_enter Tryd.func6, Tryd.ntmps6
      go_wp2_with (first
        | (go_at_call 23; refine (HC0.out _).mono ?_; rintro e w1 ⟨rfl, hk⟩; have hK := hK.trans hk)
        | (go_at_call 21; refine (HX.out _).mono ?_; rintro e w1 ⟨rfl, hk⟩; have hK := hK.trans hk)
        | (go_at_call 12; refine (H0.out _ (hT.kept hK)).mono ?_; rintro e w1 ⟨rfl, hk⟩; have hK := hK.trans hk)
        | (go_at_call 19; (with_reducible refine (M0.out _ (hT.kept hK)).mono ?_); rintro e w1 ⟨rfl, hk⟩; have hK := hK.trans hk)
        | (go_at_call 19; (with_reducible refine (M1.out _ (hT.kept hK)).mono ?_); rintro e w1 ⟨rfl, hk⟩; have hK := hK.trans hk)
        | (go_at_call 19; (with_reducible refine (M2.out _ (hT.kept hK)).mono ?_); rintro e w1 ⟨rfl, hk⟩; have hK := hK.trans hk)
        | (go_at_call 19; (with_reducible refine (M3.out _ (hT.kept hK)).mono ?_); rintro e w1 ⟨rfl, hk⟩; have hK := hK.trans hk)
        | (go_at_call 19; (with_reducible refine (M4'.out _ (hT.kept hK)).mono ?_); rintro e w1 ⟨rfl, hk⟩; have hK := hK.trans hk))
      go_ret
      exact ⟨rfl, hK.below (Nat.le_refl _) (fun _ _ f => f)⟩

end Go.Proofs.YtcacpjdmlcclkaaDoor
