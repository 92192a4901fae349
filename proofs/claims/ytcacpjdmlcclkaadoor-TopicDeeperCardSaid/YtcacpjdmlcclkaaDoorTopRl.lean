/-
  Contracts of the document's own text (pouchref04): Levels, plain, share.
-/
import Derived.Test.YtcacpjdmlcclkaaDoorTopRef
import Derived.Test.YtcacpjdmlcclkaaDoorTopC
namespace Go.Proofs.YtcacpjdmlcclkaaDoor
open Go.RowKit
set_option linter.unusedVariables false
set_option linter.unusedSimpArgs false

theorem own_keptNo {w w' : World} {base : Nat} {e : TypeId} {size n : Nat} {v : Value} {xs : List Value} (h : w.ownsRow base e size v n xs) (hk : Kept No w w') : w'.ownsRow base e size v n xs := by
  refine ⟨h.1, ?_⟩
  rcases h.2 with hn | ⟨g, cap, cur, hv, hb, hg, rest⟩
  · exact .inl hn
  · exact .inr ⟨g, cap, cur, hv, hb, (hk.block g (Array.getElem?_eq_some_iff.1 hg).1 (fun f => f)).trans hg, rest⟩
theorem strs_own {w : World} {base n : Nat} {v : Value} {L : List (List UInt8)} (h : w.ownsRow base 9 1 v L.length (strsL L)) :
    ∃ a c, v = .slice a L.length c ∧ Row w a (strsL L) ∧ L.length ≤ c := by
  rcases h.2 with ⟨hv, hn⟩ | ⟨g, cap, cur, hv, hb, hg, hle, hm, _⟩
  · obtain rfl : L = [] := List.eq_nil_of_length_eq_zero hn
    exact ⟨none, 0, hv, .nil _ _, by simp⟩
  · subst hv
    exact ⟨_, cap, rfl, .of_own h, hle⟩
/-- What the document's walk over a text has, at place i. -/
def LevInv (l : List UInt8) (i fr : Nat) (O : List (List UInt8)) : Prop := fr ≤ i ∧ 47 ∉ (l.drop fr).take (i - fr) ∧ O ++ lev (l.drop fr) = lev l
theorem levInv_zero (l : List UInt8) : LevInv l 0 0 [] := ⟨Nat.le_refl _, by simp, by simp⟩
theorem levInv_on {l : List UInt8} {i fr : Nat} {O : List (List UInt8)} (h : LevInv l i fr O) (hi : i < l.length) (hc : l[i] ≠ 47) : LevInv l (i + 1) fr O := by
  obtain ⟨h1, h2, h3⟩ := h
  refine ⟨by omega, ?_, h3⟩
  have e : i + 1 - fr = (i - fr) + 1 := by omega
  have hd : i - fr < (l.drop fr).length := by rw [List.length_drop]; omega
  rw [e, List.take_succ_eq_append_getElem hd]
  have hg : (l.drop fr)[i - fr] = l[i] := by
    rw [List.getElem_drop]
    congr 1
    omega
  rw [hg]
  simp only [List.mem_append, List.mem_singleton, not_or]
  exact ⟨h2, fun e => hc e.symm⟩
theorem levInv_cut {l : List UInt8} {i fr : Nat} {O : List (List UInt8)} (h : LevInv l i fr O) (hi : i < l.length) (hc : l[i] = 47) : LevInv l (i + 1) (i + 1) (O ++ [(l.drop fr).take (i - fr)]) := by
  obtain ⟨h1, h2, h3⟩ := h
  refine ⟨Nat.le_refl _, by simp, ?_⟩
  have e : l.drop fr = (l.drop fr).take (i - fr) ++ 47 :: l.drop (i + 1) := by
    have h4 := (List.take_append_drop (i - fr) (l.drop fr)).symm
    rw [List.drop_drop, show fr + (i - fr) = i from by omega, List.drop_eq_getElem_cons hi, hc] at h4
    exact h4
  rw [← h3]
  conv => rhs; rw [e]
  rw [lev_app _ _ h2, List.append_assoc]
  rfl
theorem levInv_end {l : List UInt8} {fr : Nat} {O : List (List UInt8)} (h : LevInv l l.length fr O) : O ++ [(l.drop fr).take (l.length - fr)] = lev l := by
  obtain ⟨h1, h2, h3⟩ := h
  have e : (l.drop fr).take (l.length - fr) = l.drop fr := List.take_of_length_le (by rw [List.length_drop]; exact Nat.le_refl _)
  rw [e] at h2 ⊢
  rw [← h3, lev_none _ h2]
theorem extract_at (s : ByteArray) (a b : Nat) : s.extract a b = ⟨((s.data.toList.drop a).take (b - a)).toArray⟩ := Lib.extract_eq s a b
/-- A call that answers levels, of its own. -/
def RLevIs (w : World) (L : List (List UInt8)) (e : Ending) (w' : World) : Prop := ∃ a c, e = .returned (.slice a L.length c) ∧ Row w' a (strsL L) ∧ Kept No w w'
theorem strsL_one (L : List (List UInt8)) (x : List UInt8) : strsL (L ++ [x]) = strsL L ++ [.string ⟨x.toArray⟩] := by simp [strsL]

set_option maxRecDepth 100000 in
set_option maxHeartbeats 2000000 in
theorem rlevels_any (s : ByteArray) (w : World) (hs : s.size < 4294967281) :
    Calls Tryd.prog 22 #[.string s] w (RLevIs w (lev s.data.toList)) := by
  obtain ⟨i0, hi, hz0, hz1, hz2⟩ := info_parts info_str
  have hsl := Lib.hid (sz_list s)
  go_enter Tryd.func22, Tryd.ntmps22
  go_wp2
  go_loopw [3, 4, 5] (fun o f i wr => ∃ (j fr : Nat) (O : List (List UInt8)), i = .int .i64 j ∧ f = .int .i64 fr ∧ fr ≤ j ∧ j ≤ s.size + 1 ∧ O.length ≤ j ∧ Hid ((j ≤ s.size ∧ LevInv s.data.toList j fr O) ∨ (s.size < j ∧ O = lev s.data.toList)) ∧ wr.ownsRow w.heap.size 9 1 o O.length (strsL O) ∧ Kept No w wr) (fun _ _ i _ => s.size + 1 - (intOf i).toNat)
  case atStart => exact ⟨0, 0, [], rfl, rfl, by omega, by omega, by simp, Lib.hid (.inl ⟨by omega, levInv_zero _⟩), World.ownsRow_nil _ _ _ _, Kept.refl _ _⟩
  case round =>
    obtain ⟨j, fr, O, rfl, rfl, hfr, hj, hO, HI, hown, hk⟩ := hrel
    have hsz := hk.size
    by_cases hle : j ≤ s.size
    · have HV : Hid (LevInv s.data.toList j fr O) := Lib.hid (by rcases HI.out with h | h; exact h.2; omega)
      clear HI
      by_cases hlt : j < s.size
      · have hne : ((j : Int) == (s.size : Int)) = false := by simp; omega
        have hlt2 : j < s.data.toList.length := by rw [hsl.out]; exact hlt
        have hget : Hid (s.data.toList[j] = s[j]) := Lib.hid (by simp [ByteArray.getElem_eq_getElem_data] <;> rfl)
        by_cases hc : s[j] = 47
        · have HN : Hid (LevInv s.data.toList (j + 1) (j + 1) (O ++ [(s.data.toList.drop fr).take (j - fr)])) := Lib.hid (levInv_cut HV.out hlt2 (by rw [hget.out]; exact hc))
          have hb : ((s[j].toNat : Int) == 47) = true := by rw [hc]; rfl
          have HE := Lib.hid (extract_at s fr j)
          generalize (s.data.toList.drop fr).take (j - fr) = p at *
          clear hc
          go_wp2_with (at_builtin; refine wpList_append_row _ rfl _ _ _ rfl w.heap.size 9 i0 _ 16 Tryd.underlying28 hi hz0 hz1 hz2 rfl _ _ _ rfl (hown.alloc _) (some ⟨wr.heap.size, 0, none⟩) 1 1 [.string ⟨p.toArray⟩] rfl rfl ?c2 (by simp) (by intro u hu; simp at hu; subst hu; rfl) ?c3 ?c4 ?c5 ?_; rotate_right; intro v2 w2 hown2 hg2 hv2)
          case c2 => rw [← HE.out]; exact .of_cells (new_cells wr _ _ _ rfl)
          case c3 => unfold maxLen; omega
          case c4 => omega
          case c5 => simp; omega
          go_roundw
          case rel => exact ⟨j + 1, j + 1, O ++ [p], by go_num, by go_num, by omega, by omega, by simp; omega, Lib.hid (.inl ⟨by omega, HN.out⟩), by rw [strsL_one]; simpa using hown2, (hk.alloc _).grown hg2 (own_no hown)⟩
          case measure => simp [intOf]; omega
        · have HN : Hid (LevInv s.data.toList (j + 1) fr O) := Lib.hid (levInv_on HV.out hlt2 (by rw [hget.out]; exact hc))
          have hb : ((s[j].toNat : Int) == 47) = false := by
            have : s[j].toNat ≠ 47 := fun h => hc (UInt8.toNat_inj.1 h)
            simp
            omega
          clear hc
          go_wp2
          go_roundw
          case rel => exact ⟨j + 1, fr, O, by go_num, rfl, by omega, by omega, by omega, Lib.hid (.inl ⟨by omega, HN.out⟩), hown, hk⟩
          case measure => simp [intOf]; omega
      · have hje : j = s.size := by omega
        subst hje
        have HN : Hid (O ++ [(s.data.toList.drop fr).take (s.size - fr)] = lev s.data.toList) := Lib.hid (by have := HV.out; rw [← hsl.out] at this ⊢; exact levInv_end this)
        have HE := Lib.hid (extract_at s fr s.size)
        generalize (s.data.toList.drop fr).take (s.size - fr) = p at *
        go_wp2_with (at_builtin; refine wpList_append_row _ rfl _ _ _ rfl w.heap.size 9 i0 _ 16 Tryd.underlying28 hi hz0 hz1 hz2 rfl _ _ _ rfl (hown.alloc _) (some ⟨wr.heap.size, 0, none⟩) 1 1 [.string ⟨p.toArray⟩] rfl rfl ?d2 (by simp) (by intro u hu; simp at hu; subst hu; rfl) ?d3 ?d4 ?d5 ?_; rotate_right; intro v2 w2 hown2 hg2 hv2)
        case d2 => rw [← HE.out]; exact .of_cells (new_cells wr _ _ _ rfl)
        case d3 => unfold maxLen; omega
        case d4 => omega
        case d5 => simp; omega
        go_roundw
        case rel => exact ⟨s.size + 1, s.size + 1, O ++ [p], by go_num, by go_num, by omega, by omega, by simp; omega, Lib.hid (.inr ⟨by omega, HN.out⟩), by rw [strsL_one]; simpa using hown2, (hk.alloc _).grown hg2 (own_no hown)⟩
        case measure => simp [intOf]
    · have hOe : O = lev s.data.toList := by rcases HI.out with h | h; omega; exact h.2
      subst hOe
      obtain ⟨a, c, rfl, hr, _⟩ := strs_own (n := 0) hown
      clear hown HI
      go_wp2
      go_ret
      exact ⟨a, c, rfl, hr, hk⟩

theorem okLev_cons (x : List UInt8) (r : List (List UInt8)) : okLev (x :: r) = ((!wildL x || (x == [43] || (x == [35] && r.isEmpty))) && okLev r) := rfl
set_option maxRecDepth 100000 in
set_option maxHeartbeats 2000000 in
theorem rplain_any (s : ByteArray) (w : World) (hs : s.size < 4294967281) :
    Calls Tryd.prog 45 #[.string s] w fun e w' => e = .returned (.bool (plainL s.data.toList)) ∧ Kept No w w' := by
  have cS := rlevels_any s w hs
  have hll := lev_len s.data.toList
  have hlm := lev_mem s.data.toList
  rw [sz_list] at hll hlm
  generalize hP : plainL s.data.toList = P
  unfold plainL at hP
  have hem : s.data.toList.isEmpty = decide (s.size = 0) := by
    rw [← sz_list]
    cases s.data.toList <;> simp
  rw [hem] at hP
  generalize lev s.data.toList = L at *
  have HS := Lib.hid cS
  have HM := Lib.hid hlm
  have HP := Lib.hid hP
  clear cS hlm hP hem
  go_enter Tryd.func45, Tryd.ntmps45
  go_wp2_with (go_at_call 22; refine HS.out.mono ?_; rintro e w1 ⟨a, c, rfl, hr, hk⟩)
  go_loop [4] (fun i => ∃ j : Nat, i = .int .i64 j ∧ j ≤ L.length ∧ Hid (okLev (L.drop j) = okLev L)) (fun i => L.length - (intOf i).toNat)
  case atStart => exact ⟨0, rfl, by omega, Lib.hid (by rw [List.drop_zero])⟩
  case round =>
    obtain ⟨j, rfl, hj, HD⟩ := hrel
    by_cases hlt : j < L.length
    · have HX := Lib.hid (show L.drop j = L[j] :: L.drop (j + 1) from List.drop_eq_getElem_cons hlt)
      have hxl : L[j].length ≤ s.size := HM.out _ (List.getElem_mem hlt)
      obtain ⟨b, off, rfl, hc⟩ := strs_at hr j hlt
      generalize L[j] = x at *
      have d1 : ∀ wx, Calls Tryd.prog 47 #[.string ⟨x.toArray⟩, .int .u8 43] wx fun e w' => e = .returned (.bool (x.contains 43)) ∧ wx = w' := fun wx => rhas_any ⟨x.toArray⟩ 43 wx (by show x.toArray.size ≤ _; simp; omega)
      have d2 : ∀ wx, Calls Tryd.prog 47 #[.string ⟨x.toArray⟩, .int .u8 35] wx fun e w' => e = .returned (.bool (x.contains 35)) ∧ wx = w' := fun wx => rhas_any ⟨x.toArray⟩ 35 wx (by show x.toArray.size ≤ _; simp; omega)
      have HO := Lib.hid (show okLev L = ((!wildL x || (x == [43] || (x == [35] && (L.drop (j + 1)).isEmpty))) && okLev (L.drop (j + 1))) by rw [← HD.out, HX.out, okLev_cons])
      have HNo : Hid (okLev L = false → P = false) := Lib.hid (fun h => by rw [← HP.out, h, Bool.and_false])
      by_cases h43 : x = [43]
      · subst h43
        have H1 := Lib.hid (show ∀ wx, Calls Tryd.prog 47 #[.string ⟨[43].toArray⟩, .int .u8 43] wx fun e w' => e = .returned (.bool true) ∧ wx = w' from d1)
        have H2 := Lib.hid (show ∀ wx, Calls Tryd.prog 47 #[.string ⟨[43].toArray⟩, .int .u8 35] wx fun e w' => e = .returned (.bool false) ∧ wx = w' from d2)
        have HN : Hid (okLev (L.drop (j + 1)) = okLev L) := Lib.hid (by rw [HO.out]; simp)
        clear d1 d2
        go_wp2_with (first
          | (go_at_call 47; (with_reducible refine (H1.out _).mono ?_); rintro e w5 ⟨rfl, rfl⟩)
          | (go_at_call 47; (with_reducible refine (H2.out _).mono ?_); rintro e w5 ⟨rfl, rfl⟩))
        go_round
        case rel => exact ⟨j + 1, by go_num, by omega, HN⟩
        case measure => simp [intOf]; omega
      · have h43b : (x == [43]) = false := by simpa using h43
        have h43n : (x != [43]) = true := by simpa using h43
        rcases hc1 : x.contains 43 with _ | _
        · rw [hc1] at d1
          have H1 := Lib.hid d1
          rcases hc2 : x.contains 35 with _ | _
          · rw [hc2] at d2
            have H2 := Lib.hid d2
            have HN : Hid (okLev (L.drop (j + 1)) = okLev L) := Lib.hid (by rw [HO.out]; unfold wildL; rw [hc1, hc2]; simp)
            clear d1 d2 hc1 hc2
            go_wp2_with (first
              | (go_at_call 47; (with_reducible refine (H1.out _).mono ?_); rintro e w5 ⟨rfl, rfl⟩)
              | (go_at_call 47; (with_reducible refine (H2.out _).mono ?_); rintro e w5 ⟨rfl, rfl⟩))
            go_round
            case rel => exact ⟨j + 1, by go_num, by omega, HN⟩
            case measure => simp [intOf]; omega
          · rw [hc2] at d2
            have H2 := Lib.hid d2
            by_cases h35 : x = [35]
            · subst h35
              by_cases hl : j + 1 < L.length
              · have hlI : (j : Int) + 1 < L.length := by omega
                have HQ : Hid (P = false) := Lib.hid (HNo.out (by
                  rw [HO.out]
                  have : (L.drop (j + 1)).isEmpty = false := by
                    cases hd : L.drop (j + 1) with
                    | nil => have := congrArg List.length hd; simp at this; omega
                    | cons _ _ => rfl
                  rw [this]
                  simp [wildL]))
                clear d1 d2 hc1 hc2
                go_wp2_with (first
                  | (go_at_call 47; (with_reducible refine (H1.out _).mono ?_); rintro e w5 ⟨rfl, rfl⟩)
                  | (go_at_call 47; (with_reducible refine (H2.out _).mono ?_); rintro e w5 ⟨rfl, rfl⟩))
                go_ret
                exact ⟨by rw [HQ.out]; rfl, hk⟩
              · have hlI : decide ((j : Int) + 1 < L.length) = false := by simp; omega
                have HN : Hid (okLev (L.drop (j + 1)) = okLev L) := Lib.hid (by
                  rw [HO.out]
                  have : L.drop (j + 1) = [] := List.drop_of_length_le (by omega)
                  rw [this]
                  simp [wildL])
                clear d1 d2 hc1 hc2
                go_wp2_with (first
                  | (go_at_call 47; (with_reducible refine (H1.out _).mono ?_); rintro e w5 ⟨rfl, rfl⟩)
                  | (go_at_call 47; (with_reducible refine (H2.out _).mono ?_); rintro e w5 ⟨rfl, rfl⟩))
                go_round
                case rel => exact ⟨j + 1, by go_num, by omega, HN⟩
                case measure => simp [intOf]; omega
            · have h35b : (x == [35]) = false := by simpa using h35
              have h35n : (x != [35]) = true := by simpa using h35
              have HQ : Hid (P = false) := Lib.hid (HNo.out (by rw [HO.out]; unfold wildL; rw [hc1, hc2, h43b, h35b]; simp))
              clear d1 d2 hc1 hc2
              go_wp2_with (first
                | (go_at_call 47; (with_reducible refine (H1.out _).mono ?_); rintro e w5 ⟨rfl, rfl⟩)
                | (go_at_call 47; (with_reducible refine (H2.out _).mono ?_); rintro e w5 ⟨rfl, rfl⟩))
              go_ret
              exact ⟨by rw [HQ.out]; rfl, hk⟩
        · rw [hc1] at d1
          have H1 := Lib.hid d1
          have h35 : (x == [35]) = false := by
            cases h : (x == [35])
            · rfl
            · have : x = [35] := by simpa using h
              rw [this] at hc1
              exact absurd hc1 (by decide)
          have HQ : Hid (P = false) := Lib.hid (HNo.out (by rw [HO.out]; unfold wildL; rw [hc1, h43b, h35]; simp))
          clear d1 d2 hc1 h35
          go_wp2_with (go_at_call 47; (with_reducible refine (H1.out _).mono ?_); rintro e w5 ⟨rfl, rfl⟩)
          go_ret
          exact ⟨by rw [HQ.out]; rfl, hk⟩
    · have HY : Hid (okLev L = true) := Lib.hid (by rw [← HD.out, List.drop_of_length_le (by omega)]; rfl)
      have HQ : Hid (P = decide (0 < s.size)) := Lib.hid (by
        rw [← HP.out, HY.out, Bool.and_true]
        by_cases h0 : s.size = 0
        · simp [h0]
        · rw [decide_eq_false h0, decide_eq_true (by omega)]; rfl)
      go_wp2
      go_ret
      exact ⟨by rw [HQ.out]; rfl, hk⟩

def rshareV (s : ByteArray) : Value := if isShare s.data.toList then (if (behind s.data.toList).contains 47 then .tuple #[.string ⟨(whoL (behind s.data.toList)).toArray⟩, .string ⟨(whatL (behind s.data.toList)).toArray⟩, .bool true] else .tuple #[.string ⟨#[]⟩, .string ⟨#[]⟩, .bool true]) else .tuple #[.string ⟨#[]⟩, .string ⟨#[]⟩, .bool false]
theorem isShare_take (l : List UInt8) (h : 7 ≤ l.length) : isShare l = decide (l.take 7 = shareW) := by
  unfold isShare
  rw [Bool.eq_iff_iff, List.isPrefixOf_iff_prefix, decide_eq_true_eq]
  constructor
  · intro hp
    have := List.prefix_iff_eq_take.1 hp
    exact this.symm
  · intro he
    rw [← he]
    exact List.take_prefix _ _
theorem isShare_short (l : List UInt8) (h : l.length < 7) : isShare l = false := by
  cases hi : isShare l
  · rfl
  · have := share_len hi; omega

end Go.Proofs.YtcacpjdmlcclkaaDoor
