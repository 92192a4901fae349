/-
  FramerFeeds, walked.
-/
import Derived.Test.YtdgmkcfkpknamaaGreatDoorZRr5
import Derived.Test.YtdgmkcfkpknamaaGreatDoorYI3
import Derived.Test.YtdgmkcfkpknamaaGreatDoorZBss
namespace Go.Proofs.YtdgmkcfkpknamaaGreatDoor
open Go.RowKit
set_option linter.unusedVariables false
set_option linter.unusedSimpArgs false
set_option maxRecDepth 100000
set_option maxHeartbeats 8000000
theorem feedS_start (v m : Int) (F : Bool) (b : List UInt8) : feedS v m ⟨F, [], 0⟩ b = ((feedG v m b.length F b).1, ⟨F && (feedG v m b.length F b).1.isEmpty, (feedG v m b.length F b).2.1, (feedG v m b.length F b).2.2⟩) := by simp [feedS]
theorem feedS_nil0 (v m : Int) (F : Bool) : feedS v m ⟨F, [], 0⟩ [] = ([], ⟨F, [], 0⟩) := by simp [feedS, feedG]
theorem RC_lenF (L : List RIt) : (RC L).length = L.length * 26 := fm_len (fun _ _ => rfl)
theorem RC_oneF (L : List RIt) : ∀ z ∈ RC L, z.oneCell' = true := fun z hz => by
  obtain ⟨x, _, hx⟩ := List.mem_flatMap.1 hz
  exact List.all_eq_true.1 (show x.li.all (·.oneCell') = true from rfl) z hx
structure FeX where
  had : List RIt
  ha : Option Addr
  hc : Nat
  all : List UInt8
  aa : Option Addr
  ac : Nat
  i : Nat
  S : Fs
  fa : Option Addr
  fc : Nat
  c : World
section
variable {c : World}
theorem ck_FramerFeeds (hT : Tabs c) {v m : Int} {F : Bool} {a : Option Addr} {n cap : Nat} {z : (Nat → Option Addr) × (Nat → List UInt8) × (Nat → Nat)} (hb : IsBss c a n cap z) : Ck Tryz.prog 6 [.agg #[.int .i64 v, .int .i64 m, .bool F], .slice a n cap] c (.bool true) := by
  have d1 := ck_cFix (c := c) (v := v) (m := m) (b := F)
  have hV : 4 + v % 18446744073709551616 % 2 = 4 ∨ 4 + v % 18446744073709551616 % 2 = 5 := by omega
  have hM : 2 ≤ 2 + m % 18446744073709551616 % 400 := by omega
  have hM2 : 2 + m % 18446744073709551616 % 400 ≤ 2400 := by omega
  generalize 4 + v % 18446744073709551616 % 2 = V at *
  generalize 2 + m % 18446744073709551616 % 400 = M at *
  have dt := ck_told10 hT
  refine Ck.in Tryz.func6 ?_
  refine go ?_
  refine vA fun b2 => ?_
  refine go ?_
  refine vta (M1 := []) (R1 := []) (tr_New (fst := F) hV hM) fun g _ => ?_
  refine go ?_
  refine vpz ?_
  refine go ?_
  refine CG.nilr 5 1 ?_
  refine CG.nilr 77 26 ?_
  refine CG.permr ?_ (List.perm_append_comm (l₁ := [_, _]) (l₂ := [_]))
  refine vlo (fun y : FeX => [(1, .slice a n cap), (2, pt b2), (5, pt g), (7, .slice y.aa y.all.length y.ac), (8, .slice y.ha y.had.length y.hc), (9, .int .i64 y.i)]) (fun y => y.c) (fun y => [frB g V M y.S.fst (.slice y.fa y.S.h.length y.fc) y.S.e, ⟨b2, 53, [.int .i64 V, .int .i64 M, .bool F]⟩]) (fun y => [byR y.fa y.fc y.S.h, ⟨77, 26, .slice y.ha y.had.length y.hc, y.had.length, RC y.had⟩, byR y.aa y.ac y.all]) (fun y => Le c y.c ∧ feedS V M ⟨F, [], 0⟩ y.all = (y.had.map RIt.pb, y.S) ∧ (∀ q ∈ y.had, q.At y.c ∧ q.p.few) ∧ y.i ≤ 40 ∧ y.all.length ≤ y.i * 300) (fun y => 40 - y.i) ⟨[], none, 0, [], none, 0, 0, ⟨F, [], 0⟩, none, 0, c⟩ ⟨Le.refl c, feedS_nil0 V M F, by simp, Nat.zero_le _, Nat.zero_le _⟩ fun y ⟨y1, y2, y3, y4, y5⟩ => ?_
  have p1 := feedS_len V M ⟨F, [], 0⟩ y.all
  have p2 := feedS_hold V M ⟨F, [], 0⟩ y.all
  rw [y2] at p1 p2
  dsimp only [List.length_nil] at p1 p2
  rw [List.length_map] at p1
  by_cases hi : y.i < n ∧ y.i < 40
  case neg =>
    rcases Nat.lt_or_ge y.i n with i1 | i1
    · have i2 : ¬ y.i < 40 := fun q => hi ⟨i1, q⟩
      refine go ?_
      exact vrb rfl
    · refine go ?_
      exact vrb rfl
  obtain ⟨i1, i2⟩ := hi
  obtain ⟨b5, o5, hR⟩ := bss_row hb i1
  obtain ⟨r1, r2, r3⟩ := hb.2.2.2.2 y.i i1
  have hR := hR.le y1
  have r1 := r1.le y1
  generalize z.1 y.i = ia at *
  generalize z.2.1 y.i = il at *
  generalize z.2.2 y.i = ic at *
  refine go ?_
  refine vh [] ?_
  repeat' first | refine go ?_ | refine vqx 0 ?_ (h := qh_q (qmi rfl rfl)) | fail
  have hq : (min (il.length : Int) 300).toNat = (il.take (min (il.length : Int) 300).toNat).length := by rw [List.length_take]; omega
  have hq2 : (il.take (min (il.length : Int) 300).toNat).length ≤ 300 := by rw [← hq]; omega
  have hq3 : (il.take (min (il.length : Int) 300).toNat).length ≤ ic := by rw [← hq]; omega
  refine vqst 0 (a := ia) (l := il) (fun ba k1 k2 => ?_) (hn9 := fun e => (r2 e).2)
  refine vqe (v' := .slice ba (il.take (min (il.length : Int) 300).toNat).length ic) (by rw [← hq]) ?_
  generalize il.take (min (il.length : Int) 300).toNat = bs at *
  clear hq r1 r2 r3 hR
  refine go ?_
  refine vmt 5 fun oa oc => ?_
  refine go ?_
  refine vgr k1 k2 (B8_one bs) (fun oa' oc' => ?_)
  rw [Nat.zero_add, List.nil_append]
  refine vlf9 fun c1 l1 o1 => ?_
  refine go ?_
  have f1 := tr_Feed (S := y.S) (v := V) (m := M) (g := g) (a := y.fa) (cp := y.fc) (hT.le (y1.trans l1)) o1.row o1.nil (by omega)
  have z1 := feedS_app V M ⟨F, [], 0⟩ y.all bs
  rw [y2] at z1
  dsimp only at z1
  have w1 := feedS_few (v := V) (m := M) (S := y.S) (b := bs) (by omega)
  have w2 := feedS_len V M y.S bs
  generalize hS2 : feedS V M y.S bs = S2 at *
  refine vt11 f1 fun x2 ⟨m1, m2, m3, m4, m5⟩ => ?_
  have w3 : x2.L.length = S2.1.length := by rw [← m2, List.length_map]
  refine go ?_
  refine LG.permr ?_ (List.perm_append_comm (l₁ := [_, _]) (l₂ := [_]))
  refine vgr (k1.le (l1.trans m1)) k2 (B8_one bs) (fun aa' ac' => ?_)
  rw [← List.length_append, ← B8_append]
  refine go ?_
  have hal : (y.all ++ bs).length ≤ (y.i + 1) * 300 := by rw [List.length_append]; omega
  generalize y.all ++ bs = al at *
  have z0 := z1
  rw [feedS_start] at z1
  have e1 : (feedG V M al.length F al).2.2 = S2.2.e := by have := congrArg (fun q => q.2.e) z1; exact this
  have e2 : (feedG V M al.length F al).2.1.length = S2.2.h.length := by have := congrArg (fun q => q.2.h.length) z1; exact this
  have e3 : (feedG V M al.length F al).1 = y.had.map RIt.pb ++ S2.1 := by have := congrArg (fun q => q.1) z1; exact this
  refine vtlu (ψ := fun c' (q : List RIt × Option Addr × Nat) c2 => q.1.map RIt.pb = (feedG V M al.length F al).1 ∧ (∀ t ∈ q.1, t.At c2 ∧ Pn c' t.p t.s) ∧ Own9 c2 77 q.2.1 q.1.length q.2.2 (RC q.1) ∧ Nw c' q.2.1 (RC q.1)) (ψ' := fun (q : List RIt × Option Addr × Nat) c3 => q.1.map RIt.pb = (feedG V M al.length F al).1 ∧ (∀ t ∈ q.1, t.At c3) ∧ Row c3 q.2.1 (RC q.1)) (fun c' l9 o9 => tn_Parse (v := V) (m := M) (F := F) (hT.le (((y1.trans l1).trans m1).trans l9)) o9.row o9.nil o9.le (by omega) hM2) (fun c' q c2 c3 hb9 hz9 ⟨h1, h2, h3, h4⟩ => ⟨h1, fun t ht => ⟨⟨(h2 t ht).1.p.hw.nw (h2 t ht).2.w hb9 hz9, (h2 t ht).1.p.hf.nw (h2 t ht).2.f hb9 hz9, (h2 t ht).1.p.hc.nw (h2 t ht).2.c hb9 hz9, (h2 t ht).1.p.hp.nw (h2 t ht).2.p hb9 hz9⟩, (h2 t ht).1.n⟩, h3.row.nw h4 hb9 hz9⟩) fun q c3 n1 ⟨n2, n3, n4⟩ => ?_
  rw [e1, e2]
  refine go ?_
  refine vtn (tn_From10 (m4.le n1) (fun t ht => ⟨(m3 t ht).le n1, w1 _ (by rw [← m2]; exact List.mem_map_of_mem ht)⟩) (by omega)) fun x3 c4 a1 ⟨a2, a3, a4⟩ => ?_
  have w4 : x3.1.length = S2.1.length := by rw [← w3]; simpa using congrArg List.length a2
  refine LG.permr ?_ (List.perm_append_comm (l₁ := [_, _]) (l₂ := [_]))
  refine vgr a4.row a4.nil (RC_oneF _) (fun ha' hc' => ?_) (hl := RC_lenF _) (hb := by omega)
  have r4 : y.had.length + x3.1.length = (y.had ++ x3.1).length := by rw [List.length_append]
  have r5 : RC y.had ++ RC x3.1 = RC (y.had ++ x3.1) := by unfold RC; rw [List.flatMap_append]
  rw [r4, r5]
  have u1 : (y.had ++ x3.1).map RIt.pb = y.had.map RIt.pb ++ S2.1 := by rw [List.map_append, a2, m2]
  have u2 : ∀ t ∈ y.had ++ x3.1, t.At c4 ∧ t.p.few := by
    intro t ht
    rcases List.mem_append.1 ht with ht | ht
    · exact ⟨(y3 t ht).1.le (((l1.trans m1).trans n1).trans a1), (y3 t ht).2⟩
    · refine ⟨a3 t ht, ?_⟩
      have : t.pb ∈ S2.1 := by rw [← m2, ← a2]; exact List.mem_map_of_mem ht
      exact w1 _ this
  have u3 : (y.had ++ x3.1).length ≤ 100000 := by rw [← r4]; omega
  have u4 : (y.had ++ x3.1).map RIt.pb = q.1.map RIt.pb := by rw [u1, n2, e3]
  have u5 : ∀ t ∈ q.1, t.At c4 ∧ t.p.few := fun t ht => ⟨(n3 t ht).le a1, by
    have : t.pb ∈ (y.had ++ x3.1).map RIt.pb := by rw [u4]; exact List.mem_map_of_mem ht
    obtain ⟨t9, h8, h9⟩ := List.mem_map.1 this
    have := (u2 t9 h8).2
    rw [show t9.p = t.p from congrArg Prod.fst h9] at this
    exact this⟩
  have u6 : q.1.length ≤ 100000 := by have := congrArg List.length u4; rw [List.length_map, List.length_map] at this; omega
  have q1 : Row c4 oa' (B8 bs) := o1.row.le ((m1.trans n1).trans a1)
  have q1n := o1.nil
  have q2 : Row c4 ba (B8 bs) := k1.le (((l1.trans m1).trans n1).trans a1)
  have hE : S2.2.e = S2.2.e := rfl
  have hH : (S2.2.h.length : Int) = (S2.2.h.length : Int) := rfl
  have hB : (⟨bs.toArray⟩ : ByteArray) = ⟨bs.toArray⟩ := rfl
  have n5 := n4.le a1
  have hle := (((y1.trans l1).trans m1).trans n1).trans a1
  generalize y.had ++ x3.1 = hd at *
  refine go ?_
  refine vkl (v := .bool true) (fun c' l9 o9 => by
    have := ck_rSame10 (n := hc') (m := q.2.2) o9.row (n5.le l9) (fun t ht => ⟨(u2 t ht).1.le l9, (u2 t ht).2⟩) (fun t ht => ⟨(u5 t ht).1.le l9, (u5 t ht).2⟩) u3 u6
    rwa [decide_eq_true u4] at this) ?_
  refine go ?_
  refine vt1a tr_Held fun _ _ => ?_
  refine go ?_
  refine vt1a kr_ferr fun _ _ => ?_
  refine go ?_
  refine EG.permr ?_ (List.perm_append_comm (l₁ := [_, _]) (l₂ := [_]))
  have r6 : (y.i : Int) + 1 = ((y.i + 1 : Nat) : Int) := by omega
  rw [r6]
  exact vj (FeX.mk hd ha' hc' al aa' ac' (y.i + 1) S2.2 x2.a x2.cp c4) ⟨hle, by rw [z0, u1], u2, i2, hal⟩ (hμ := by dsimp only; omega)
end
end Go.Proofs.YtdgmkcfkpknamaaGreatDoor
