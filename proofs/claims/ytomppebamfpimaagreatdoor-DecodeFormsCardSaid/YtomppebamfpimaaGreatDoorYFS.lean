import Derived.Test.YtomppebamfpimaaGreatDoorYF8
import Derived.Test.YtomppebamfpimaaGreatDoorYF9
import Derived.Test.YtomppebamfpimaaGreatDoorYFR
import Derived.Test.YtomppebamfpimaaGreatDoorYFJ
namespace Go.Proofs.YtomppebamfpimaaGreatDoor
open Go.RowKit
set_option linter.unusedVariables false
set_option linter.unusedSimpArgs false
set_option maxRecDepth 100000
theorem takeSec_len (l : List UInt8) (e : Int) : (takeSec l e).length ≤ l.length := by
 have h1 := (rv_suf 4 0 0 l e).length_le
 unfold takeSec taken
 split
 ·rw [List.length_take]; omega
 ·simp
structure FixOk (k : Int) (out : List Pr) : Prop where
 val : ∀ p ∈ out, valueB p.id p.n p.a p.b = true ∧ forB p.id k = true ∧ p.id < 256 ∧ p.n < 4294967296 ∧ p.a.size ≤ 32 ∧ p.b.size ≤ 32
 once : ∀ i, 2 ≤ (idf i out).length → oftenB i k = true
def blR (l : List Nat) : List UInt8 := l.map UInt8.ofNat
theorem bl_oneR (c : Nat) (h : c < 256) : B8 (blR [c]) = [.int .u8 c] := by
 simp [blR, B8, UInt8.toNat_ofNat_of_lt' (show c < UInt8.size from h)]
theorem bl_appendR (l m : List Nat) : blR (l ++ m) = blR l ++ blR m := by simp [blR]
def Fl (l : List (Nat × Nat)) (j : Nat) : List UInt8 := blR ((List.range j).filter (knownB l))
theorem Fl_yes (l : List (Nat × Nat)) (j : Nat) (h : knownB l j = true) : Fl l (j + 1) = Fl l j ++ blR [j] := by
 unfold Fl
 rw [List.range_succ, List.filter_append, bl_appendR]
 simp [h]
theorem Fl_no (l : List (Nat × Nat)) (j : Nat) (h : knownB l j = false) : Fl l (j + 1) = Fl l j := by
 unfold Fl
 rw [List.range_succ, List.filter_append, bl_appendR]
 simp [h, blR]
def Gives (w : World) (l : List UInt8) (e : Ending) (w' : World) : Prop :=
 ∃ v, e = .returned v ∧ w'.ownsRow w.heap.size 5 1 v l.length (B8 l) ∧ Kept No w w'
theorem gives_of {w w' : World} {v : Value} {l : List UInt8} {n : Nat} {xs : List Value} (h : w'.ownsRow w.heap.size 5 1 v n xs) (hn : n = l.length) (hx : xs = B8 l) (hk : Kept No w w') : Gives w l (.returned v) w' := by
 subst hn hx
 exact ⟨v, rfl, h, hk⟩
theorem own_keptNoR {w w' : World} {base : Nat} {e : TypeId} {size n : Nat} {v : Value} {xs : List Value} (h : w.ownsRow base e size v n xs) (hk : Kept No w w') : w'.ownsRow base e size v n xs := by
 refine ⟨h.1, ?_⟩
 rcases h.2 with hn | ⟨g, cap, cur, hv, hb, hg, rest⟩
 ·exact .inl hn
 ·exact .inr ⟨g, cap, cur, hv, hb, (hk.block g (Array.getElem?_eq_some_iff.1 hg).1 (fun f => f)).trans hg, rest⟩
set_option maxRecDepth 100000 in
set_option maxHeartbeats 1000000 in
theorem rall_any (v k : Int) (w : World) :
  Calls Tryz.prog 89 #[.int .i64 v, .int .i64 k] w (Gives w (blR (allL (sp v k)))) := by
 obtain ⟨i0, hi, hz0, hz1, hz2⟩ := info_parts info_u8
 have cK := fun c wx (hc : c < 256) => rknown_any v k c wx hc
 have hA : Fl (sp v k) 256 = blR (allL (sp v k)) := by unfold Fl; rw [all_filter]
 rw [← hA]
 clear hA
 generalize sp v k = l at *
 have HK := Lib.hid cK
 clear cK
 go_enter Tryz.func89, Tryz.ntmps89
 go_wp2
 go_loopw [5, 6] (fun s i wr => ∃ (j : Nat) (p : List UInt8), i = .int .i64 j ∧ j ≤ 256 ∧ Hid (p = Fl l j) ∧ p.length ≤ j ∧ wr.ownsRow w.heap.size 5 1 s p.length (B8 p) ∧ Kept No w wr) (fun _ i _ => 256 - (intOf i).toNat)
 case atStart => exact ⟨0, [], rfl, by omega, Lib.hid rfl, by simp, World.ownsRow_nil _ _ _ _, Kept.refl _ _⟩
 case round =>
  obtain ⟨j, p, rfl, hj, HP, hpl, hown, hk⟩ := hrel
  have hsz := hk.size
  by_cases hlt : j < 256
  ·have hjI : (j : Int) < 256 := by omega
   rcases hY : knownB l j with _ | _
   ·have HC : Hid (∀ wx, Calls Tryz.prog 105 #[.int .i64 v, .int .i64 k, .int .u8 j] wx fun e w' => e = .returned (.bool false) ∧ Kept No wx w') := Lib.hid (fun wx => by have := HK.out j wx hlt; rw [hY] at this; exact this)
    have HN := Lib.hid (Fl_no l j hY)
    clear hY
    go_wp2_with (go_at_call 105; refine (HC.out _).mono ?_; rintro e w1 ⟨rfl, hk1⟩)
    go_roundw
    case rel => exact ⟨j + 1, p, by go_num, by omega, Lib.hid (by rw [HN.out, HP.out]), by omega, own_keptNoR hown hk1, hk.trans hk1⟩
    case measure => simp [intOf]; omega
   ·have HC : Hid (∀ wx, Calls Tryz.prog 105 #[.int .i64 v, .int .i64 k, .int .u8 j] wx fun e w' => e = .returned (.bool true) ∧ Kept No wx w') := Lib.hid (fun wx => by have := HK.out j wx hlt; rw [hY] at this; exact this)
    have HN := Lib.hid (Fl_yes l j hY)
    clear hY
    go_wp2_with (first
     | (go_at_call 105; refine (HC.out _).mono ?_; rintro e w1 ⟨rfl, hk1⟩; have hown1 := own_keptNoR hown hk1)
     | (at_builtin; refine wpList_append_row _ rfl _ _ _ rfl w.heap.size 5 i0 _ 1 Tryz.underlying25 hi hz0 hz1 hz2 rfl _ _ _ rfl (hown1.alloc _) (some ⟨w1.heap.size, 0, none⟩) 1 1 (B8 (blR [j])) rfl ?c1 ?c2 (by simp) (B8_one _) ?c3 ?c4 ?c5 ?_; rotate_right; intro v2 w2 hown2 hg2 hv2))
    case c1 => rw [bl_oneR j hlt]; rfl
    case c2 => rw [bl_oneR j hlt]; exact .of_cells (new_cells w1 _ _ _ rfl)
    case c3 => unfold maxLen; omega
    case c4 => omega
    case c5 => have := hk1.size; simp; omega
    go_roundw
    case rel => exact ⟨j + 1, p ++ blR [j], by go_num, by omega, Lib.hid (by rw [HN.out, HP.out]), by simp [blR]; omega, by simpa [B8_append, blR] using hown2, ((hk.trans hk1).alloc _).grown hg2 (own_no hown1)⟩
    case measure => simp [intOf]; omega
  ·have hj6 : j = 256 := by omega
   go_wp2
   go_ret
   exact gives_of hown (by rw [HP.out, hj6]) (by rw [HP.out, hj6]) hk
end Go.Proofs.YtomppebamfpimaaGreatDoor
