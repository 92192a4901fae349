import Derived.Test.YtomppebamfpimaaGreatDoorYFB
import Derived.Test.YtomppebamfpimaaGreatDoorYF3
import Derived.Deep.RegionHeld3
namespace Go.Proofs.YtomppebamfpimaaGreatDoor
open Go.RowKit
set_option linter.unusedVariables false
set_option linter.unusedSimpArgs false
set_option maxRecDepth 100000
def zeroPk : Array Value := #[.int .i64 0, .bool false, .bool false, .int .u8 0, .int .u16 0, .bool false, .int .u16 0, .string ⟨#[]⟩, .bool false, .bool false, .bool false, .int .u8 0, .bool false, .slice none 0 0, .string ⟨#[]⟩, .string ⟨#[]⟩, .string ⟨#[]⟩, .string ⟨#[]⟩, .bool false, .int .u8 0, .string ⟨#[]⟩, .string ⟨#[]⟩, .slice none 0 0, .slice none 0 0, .slice none 0 0]
theorem append_bytes (w : World) (base g : Nat) (a : Option Addr) (c : Nat) (l : List UInt8) (hown : w.ownsRow base 5 1 (.slice (some ⟨g, 0, none⟩) 0 0) 0 []) (hr : Row w a (B8 l)) (hn : a = none → l.length = 0 ∧ c = 0) (hl : l.length ≤ 140737488355328) (hb : base ≤ w.heap.size) :
  ∃ v' w', (Builtin.append_ #[25, 25] 25 #[.slice (some ⟨g, 0, none⟩) 0 0, .slice a l.length c]).run Tryz.prog w = .ok v' w' ∧ w'.ownsRow base 5 1 v' l.length (B8 l) ∧ w.grownBy w' (some g) ∧ (v' = .slice none 0 0 ↔ False) := by
 obtain ⟨i0, hi, hz0, hz1, hz2⟩ := info_parts info_u8
 cases a with
 | some ad =>
  obtain ⟨v', w', h1, h2, h3, h4⟩ := run_append_own (P := Tryz.prog) w base 25 25 5 i0 _ 1 1 Tryz.underlying25 hi hz0 hz1 hz2 rfl (by decide) _ _ _ hown ad l.length c (B8 l) (by simp) (hr.at_add ad rfl) (B8_one l) (by unfold maxLen; omega) (by omega) hb
  exact ⟨v', w', h1, by simpa using h2, h3, by simp [h4]⟩
 | none =>
  obtain ⟨h0, rfl⟩ := hn rfl
  have hl0 : l = [] := List.length_eq_zero_iff.1 h0
  subst hl0
  exact ⟨_, w, run_append_owned_none (P := Tryz.prog) (w := w) base 25 25 5 i0 1 Tryz.underlying25 hi _ _ _ hown, hown, World.grownBy.refl w _, by simp⟩
theorem own_blk {w w' : World} {B size n g : Nat} {e t : TypeId} {v : Value} {xs : List Value} {c : Array Value} (h : w.ownsRow B e size v n xs) (hb : Blk w g t c) (ht : t ≠ e) (hk : Kept (One g) w w') : w'.ownsRow B e size v n xs := by
 refine ⟨h.1, ?_⟩
 rcases h.2 with h2 | ⟨g', cap, cur, q1, q2, q3, q4⟩
 ·exact .inl h2
 ·refine .inr ⟨g', cap, cur, q1, q2, (hk.block g' (Array.getElem?_eq_some_iff.1 q3).1 (fun hm => ?_)).trans q3, q4⟩
  have hm' : g' = g := hm
  subst hm'
  unfold Blk at hb
  rw [hb] at q3
  injection q3 with q3
  injection q3 with _ q3 _
  exact ht q3
theorem own_at {w : World} {B size n m cap g : Nat} {e : TypeId} {xs : List Value} (h : w.ownsRow B e size (.slice (some ⟨g, 0, none⟩) n cap) m xs) : ∃ cur, Blk w g e cur := by
 rcases h.2 with ⟨hv, _⟩ | ⟨g', cap', cur, q1, q2, q3, q4⟩
 ·cases hv
 ·injection q1 with q1 _ _
  injection q1 with q1
  injection q1 with q1 _ _
  subst q1
  exact ⟨cur, q3⟩
theorem own_typ {w w' : World} {B size n g B2 s2 n2 m2 c2 : Nat} {e e2 : TypeId} {v : Value} {xs ys : List Value} (h : w.ownsRow B e size v n xs) (h2 : w.ownsRow B2 e2 s2 (.slice (some ⟨g, 0, none⟩) n2 c2) m2 ys) (ht : e2 ≠ e) (hk : Kept (One g) w w') : w'.ownsRow B e size v n xs := by
 obtain ⟨cur, hb⟩ := own_at h2
 exact own_blk h hb ht hk
theorem blk_typ {w : World} {z g B2 s2 n2 m2 c2 : Nat} {t e2 : TypeId} {c : Array Value} {ys : List Value} (h : Blk w z t c) (h2 : w.ownsRow B2 e2 s2 (.slice (some ⟨g, 0, none⟩) n2 c2) m2 ys) (ht : e2 ≠ t) : ¬ One g z := fun hm => by
 obtain ⟨cur, hb⟩ := own_at h2
 have hm' : z = g := hm
 subst hm'
 unfold Blk at h hb
 rw [h] at hb
 injection hb with hb
 injection hb with _ hb _
 exact ht hb.symm
theorem own_sep {w w' : World} {S : Nat → Prop} {B size n : Nat} {e : TypeId} {v : Value} {xs : List Value} (h : w.ownsRow B e size v n xs) (hk : Kept S w w') (hS : ∀ g cur, S g → w.heap[g]? = some (.cells cur e (0, 0)) → False) : w'.ownsRow B e size v n xs := by
 refine ⟨h.1, ?_⟩
 rcases h.2 with h2 | ⟨g', cap, cur, q1, q2, q3, q4⟩
 ·exact .inl h2
 ·exact .inr ⟨g', cap, cur, q1, q2, (hk.block g' (Array.getElem?_eq_some_iff.1 q3).1 (fun hm => hS g' cur hm q3)).trans q3, q4⟩
theorem own_typed {w : World} {B size n g : Nat} {e : TypeId} {v : Value} {xs : List Value} (h : w.ownsRow B e size v n xs) (hv : v.ownBlock = some g) : ∃ cur, Blk w g e cur := by
 rcases h.2 with ⟨h', _⟩ | ⟨g', cap', cur, rfl, q2, q3, q4⟩
 ·subst h'; cases hv
 ·injection hv with hv
  have hv' : g' = g := hv
  subst hv'
  exact ⟨cur, q3⟩
theorem blk_eq {w : World} {g : Nat} {t e : TypeId} {c cur : Array Value} {fz : Nat × Nat} (h : Blk w g t c) (h2 : w.heap[g]? = some (.cells cur e fz)) : t = e := by
 unfold Blk at h
 rw [h] at h2
 injection h2 with h2
 injection h2
theorem results_cell {P : Program} {fn : Func} {a : Tmp} {t : TypeId} {tmps : Array Value} {w : World} {v : Value} {g : Nat} (h : fn.results = #[.cell a t]) (ha : tmps.getD a undef = .pointer (some ⟨g, 0, none⟩)) (hl : (Instr.loadAt t (.pointer (some ⟨g, 0, none⟩))).run P w = .ok v w) : (results fn tmps).run P w = .ok v w := by
 have hl2 : (loadVar t ⟨g, 0, none⟩).run P w = .ok v w := hl
 unfold results
 rw [h]
 have ha2 : asAddr (tmps.getD a undef) = (pure ⟨g, 0, none⟩ : Sem Addr) := by rw [ha]; rfl
 simp only [List.mapM_toArray, List.mapM_cons, List.mapM_nil, Array.mapM_eq_mapM_toList]
 rw [ha2]
 simp [hl2, Result.andThen]
theorem run_skip {P : Program} {w : World} {s : Sem Unit} {w' : World} (h : s.run P w = .ok () w') : (do s; pure Next.skip : Sem Next).run P w = .ok .skip w' := by
 simp [h, Result.andThen]
theorem wpList_st {P : Program} {ops : Array Oper} {Q : Exit → Act → World → Prop} {a : Act} {w : World} {rest : List Oper} {o : Oper} {w' : World} (hg : o.guard = none) (h : (execOp a.eval o).run P w = .ok .skip w') (k : wpList P ops Q rest (a.put o.dst undef) w') : wpList P ops Q (o :: rest) a w := by
 unfold wpList
 rw [if_pos (by simp [Region.wanted, hg])]
 left
 unfold Oper.wp
 rw [h]
 exact k
def SSt (zb : Nat) (v : Value) : Nat → Prop := fun k => k = zb ∨ v.ownBlock = some k
theorem info_filt : (Tryz.prog.info? 88).map (fun i => (i.zero, i.size, i.bytes)) = some (some (.agg #[.string ⟨#[]⟩, .int .u8 0]), 2, 24) := by kernel_rfl
theorem new_filt {w : World} {t : TypeId} {p : Fi} : ∀ j u, (FC [p])[j]? = some u → (w.alloc (.cells #[.string p.text, .int .u8 p.opt] t)).cell? ((⟨w.heap.size, 0, none⟩ : Addr).add j) = some u := by
 have h : FC [p] = [.string p.text, .int .u8 p.opt] := by rw [FC_one]; rfl
 rw [h]
 exact new_at rfl
structure ToB (base : Nat) (p : Pk) (zb : Nat) (s : Sl) (w : World) : Prop where
 blk : Blk w zb 33 ({ p with filters := [] }.cells s)
 sf : s.fa = none ∧ s.fc = 0
 ow : w.ownsRow base 142 4 (.slice s.wa p.willProps.length s.wc) p.willProps.length (PC p.willProps)
 op : w.ownsRow base 142 4 (.slice s.pa p.props.length s.pc) p.props.length (PC p.props)
 oc : w.ownsRow base 5 1 (.slice s.ca p.codes.length s.cc) p.codes.length (B8 p.codes)
structure Small (p : Pk) : Prop where
 sum : p.client.size + p.willTopic.size + p.willLoad.size + p.user.size + p.pass.size + p.topic.size + p.load.size + p.codes.length ≤ 3000
 nf : p.filters.length ≤ 30
 np : p.props.length ≤ 30
 nw : p.willProps.length ≤ 30
 tf : ∀ f ∈ p.filters, f.text.size ≤ 300
 tp : ∀ x ∈ p.props, x.a.size ≤ 300 ∧ x.b.size ≤ 300
 tw : ∀ x ∈ p.willProps, x.a.size ≤ 300 ∧ x.b.size ≤ 300
structure Reach (p : Pk) : Prop where
 client : p.client.size ≤ 140737488351232
 willTopic : p.willTopic.size ≤ 140737488351232
 willLoad : p.willLoad.size ≤ 140737488351232
 user : p.user.size ≤ 140737488351232
 pass : p.pass.size ≤ 140737488351232
 topic : p.topic.size ≤ 140737488351232
 load : p.load.size ≤ 140737488351232
 nw : p.willProps.length ≤ 140737488351232
 nf : p.filters.length ≤ 140737488351232
 nc : p.codes.length ≤ 140737488351232
 np : p.props.length ≤ 140737488351232
 tf : ∀ f ∈ p.filters, f.text.size ≤ 140737488351232
 tp : ∀ x ∈ p.props, x.a.size ≤ 140737488351232 ∧ x.b.size ≤ 140737488351232
 tw : ∀ x ∈ p.willProps, x.a.size ≤ 140737488351232 ∧ x.b.size ≤ 140737488351232
def FewIs (p : Pk) (w : World) (e : Ending) (w' : World) : Prop := ∃ b, e = .returned (.bool b) ∧ (b = true → Small p) ∧ Kept No w w'
theorem fewIs_no {p : Pk} {w w' : World} (hk : Kept No w w') : FewIs p w (.returned (.bool false)) w' := ⟨false, rfl, by simp, hk⟩
set_option maxHeartbeats 4000000 in
theorem few_any (p : Pk) (s : Sl) (w : World) (hp : p.At s w) (hR : Reach p) :
  Calls Tryz.prog 15 #[p.val s] w (FewIs p w) := by
 obtain ⟨r1, r2, r3, r4, r5, r6, r7, r8, r9, r10, r11, r12, r13, r14⟩ := hR
 have HR12 := Lib.hid r12
 have HR13 := Lib.hid r13
 have HR14 := Lib.hid r14
 clear r12 r13 r14
 have hkB : Kept No w (w.alloc (.cells (p.cells s) 27)) := (Kept.refl No w).alloc _
 have hB1 := Blk.new w 27 (p.cells s)
 have CB := Lib.hid (fun wx (hk : Kept No (w.alloc (.cells (p.cells s) 27)) wx) (i : Nat) => (hB1.kept hk (fun f => f)).cell i)
 clear hB1
 by_cases hs : p.client.size + p.willTopic.size + p.willLoad.size + p.user.size + p.pass.size + p.topic.size + p.load.size + p.codes.length ≤ 3000
 case neg =>
  have hI : (3000 : Int) < (p.client.size : Int) + p.willTopic.size + p.willLoad.size + p.user.size + p.pass.size + p.topic.size + p.load.size + p.codes.length := by omega
  go_enter Tryz.func15, Tryz.ntmps15
  refine wp_seq_k (fun K9 hK9 => ?_)
  have HK := Lib.hid hK9
  clear hK9
  unfold Pk.val
  go_wp2
  refine HK.out _ _ ?_
  clear HK K9
  change Code.wp _ _ _ _ (w.alloc (.cells (p.cells s) 27))
  generalize w.alloc (.cells (p.cells s) 27) = wB at *
  have c7 : wB.cell? ⟨w.heap.size, 7, none⟩ = some (.string p.client) := CB.out wB (Kept.refl _ _) 7
  have c14 : wB.cell? ⟨w.heap.size, 14, none⟩ = some (.string p.willTopic) := CB.out wB (Kept.refl _ _) 14
  have c15 : wB.cell? ⟨w.heap.size, 15, none⟩ = some (.string p.willLoad) := CB.out wB (Kept.refl _ _) 15
  have c16 : wB.cell? ⟨w.heap.size, 16, none⟩ = some (.string p.user) := CB.out wB (Kept.refl _ _) 16
  have c17 : wB.cell? ⟨w.heap.size, 17, none⟩ = some (.string p.pass) := CB.out wB (Kept.refl _ _) 17
  have c20 : wB.cell? ⟨w.heap.size, 20, none⟩ = some (.string p.topic) := CB.out wB (Kept.refl _ _) 20
  have c21 : wB.cell? ⟨w.heap.size, 21, none⟩ = some (.string p.load) := CB.out wB (Kept.refl _ _) 21
  have c23 : wB.cell? ⟨w.heap.size, 23, none⟩ = some (.slice s.ca p.codes.length s.cc) := CB.out wB (Kept.refl _ _) 23
  have c22 : wB.cell? ⟨w.heap.size, 22, none⟩ = some (.slice s.fa p.filters.length s.fc) := CB.out wB (Kept.refl _ _) 22
  have c24 : wB.cell? ⟨w.heap.size, 24, none⟩ = some (.slice s.pa p.props.length s.pc) := CB.out wB (Kept.refl _ _) 24
  have c13 : wB.cell? ⟨w.heap.size, 13, none⟩ = some (.slice s.wa p.willProps.length s.wc) := CB.out wB (Kept.refl _ _) 13
  go_wp2
  go_ret
  exact fewIs_no hkB
 have hI : decide ((3000 : Int) < (p.client.size : Int) + p.willTopic.size + p.willLoad.size + p.user.size + p.pass.size + p.topic.size + p.load.size + p.codes.length) = false := by simp; omega
 by_cases h1 : p.filters.length ≤ 30
 case neg =>
  have hI1 : (30 : Int) < (p.filters.length : Int) := by omega
  go_enter Tryz.func15, Tryz.ntmps15
  refine wp_seq_k (fun K9 hK9 => ?_)
  have HK := Lib.hid hK9
  clear hK9
  unfold Pk.val
  go_wp2
  refine HK.out _ _ ?_
  clear HK K9
  change Code.wp _ _ _ _ (w.alloc (.cells (p.cells s) 27))
  generalize w.alloc (.cells (p.cells s) 27) = wB at *
  have c7 : wB.cell? ⟨w.heap.size, 7, none⟩ = some (.string p.client) := CB.out wB (Kept.refl _ _) 7
  have c14 : wB.cell? ⟨w.heap.size, 14, none⟩ = some (.string p.willTopic) := CB.out wB (Kept.refl _ _) 14
  have c15 : wB.cell? ⟨w.heap.size, 15, none⟩ = some (.string p.willLoad) := CB.out wB (Kept.refl _ _) 15
  have c16 : wB.cell? ⟨w.heap.size, 16, none⟩ = some (.string p.user) := CB.out wB (Kept.refl _ _) 16
  have c17 : wB.cell? ⟨w.heap.size, 17, none⟩ = some (.string p.pass) := CB.out wB (Kept.refl _ _) 17
  have c20 : wB.cell? ⟨w.heap.size, 20, none⟩ = some (.string p.topic) := CB.out wB (Kept.refl _ _) 20
  have c21 : wB.cell? ⟨w.heap.size, 21, none⟩ = some (.string p.load) := CB.out wB (Kept.refl _ _) 21
  have c23 : wB.cell? ⟨w.heap.size, 23, none⟩ = some (.slice s.ca p.codes.length s.cc) := CB.out wB (Kept.refl _ _) 23
  have c22 : wB.cell? ⟨w.heap.size, 22, none⟩ = some (.slice s.fa p.filters.length s.fc) := CB.out wB (Kept.refl _ _) 22
  have c24 : wB.cell? ⟨w.heap.size, 24, none⟩ = some (.slice s.pa p.props.length s.pc) := CB.out wB (Kept.refl _ _) 24
  have c13 : wB.cell? ⟨w.heap.size, 13, none⟩ = some (.slice s.wa p.willProps.length s.wc) := CB.out wB (Kept.refl _ _) 13
  go_wp2
  go_ret
  exact fewIs_no hkB
 have hI1 : decide ((30 : Int) < (p.filters.length : Int)) = false := by simp; omega
 by_cases h2 : p.props.length ≤ 30
 case neg =>
  have hI2 : (30 : Int) < (p.props.length : Int) := by omega
  go_enter Tryz.func15, Tryz.ntmps15
  refine wp_seq_k (fun K9 hK9 => ?_)
  have HK := Lib.hid hK9
  clear hK9
  unfold Pk.val
  go_wp2
  refine HK.out _ _ ?_
  clear HK K9
  change Code.wp _ _ _ _ (w.alloc (.cells (p.cells s) 27))
  generalize w.alloc (.cells (p.cells s) 27) = wB at *
  have c7 : wB.cell? ⟨w.heap.size, 7, none⟩ = some (.string p.client) := CB.out wB (Kept.refl _ _) 7
  have c14 : wB.cell? ⟨w.heap.size, 14, none⟩ = some (.string p.willTopic) := CB.out wB (Kept.refl _ _) 14
  have c15 : wB.cell? ⟨w.heap.size, 15, none⟩ = some (.string p.willLoad) := CB.out wB (Kept.refl _ _) 15
  have c16 : wB.cell? ⟨w.heap.size, 16, none⟩ = some (.string p.user) := CB.out wB (Kept.refl _ _) 16
  have c17 : wB.cell? ⟨w.heap.size, 17, none⟩ = some (.string p.pass) := CB.out wB (Kept.refl _ _) 17
  have c20 : wB.cell? ⟨w.heap.size, 20, none⟩ = some (.string p.topic) := CB.out wB (Kept.refl _ _) 20
  have c21 : wB.cell? ⟨w.heap.size, 21, none⟩ = some (.string p.load) := CB.out wB (Kept.refl _ _) 21
  have c23 : wB.cell? ⟨w.heap.size, 23, none⟩ = some (.slice s.ca p.codes.length s.cc) := CB.out wB (Kept.refl _ _) 23
  have c22 : wB.cell? ⟨w.heap.size, 22, none⟩ = some (.slice s.fa p.filters.length s.fc) := CB.out wB (Kept.refl _ _) 22
  have c24 : wB.cell? ⟨w.heap.size, 24, none⟩ = some (.slice s.pa p.props.length s.pc) := CB.out wB (Kept.refl _ _) 24
  have c13 : wB.cell? ⟨w.heap.size, 13, none⟩ = some (.slice s.wa p.willProps.length s.wc) := CB.out wB (Kept.refl _ _) 13
  go_wp2
  go_ret
  exact fewIs_no hkB
 have hI2 : decide ((30 : Int) < (p.props.length : Int)) = false := by simp; omega
 by_cases h3 : p.willProps.length ≤ 30
 case neg =>
  have hI3 : (30 : Int) < (p.willProps.length : Int) := by omega
  go_enter Tryz.func15, Tryz.ntmps15
  refine wp_seq_k (fun K9 hK9 => ?_)
  have HK := Lib.hid hK9
  clear hK9
  unfold Pk.val
  go_wp2
  refine HK.out _ _ ?_
  clear HK K9
  change Code.wp _ _ _ _ (w.alloc (.cells (p.cells s) 27))
  generalize w.alloc (.cells (p.cells s) 27) = wB at *
  have c7 : wB.cell? ⟨w.heap.size, 7, none⟩ = some (.string p.client) := CB.out wB (Kept.refl _ _) 7
  have c14 : wB.cell? ⟨w.heap.size, 14, none⟩ = some (.string p.willTopic) := CB.out wB (Kept.refl _ _) 14
  have c15 : wB.cell? ⟨w.heap.size, 15, none⟩ = some (.string p.willLoad) := CB.out wB (Kept.refl _ _) 15
  have c16 : wB.cell? ⟨w.heap.size, 16, none⟩ = some (.string p.user) := CB.out wB (Kept.refl _ _) 16
  have c17 : wB.cell? ⟨w.heap.size, 17, none⟩ = some (.string p.pass) := CB.out wB (Kept.refl _ _) 17
  have c20 : wB.cell? ⟨w.heap.size, 20, none⟩ = some (.string p.topic) := CB.out wB (Kept.refl _ _) 20
  have c21 : wB.cell? ⟨w.heap.size, 21, none⟩ = some (.string p.load) := CB.out wB (Kept.refl _ _) 21
  have c23 : wB.cell? ⟨w.heap.size, 23, none⟩ = some (.slice s.ca p.codes.length s.cc) := CB.out wB (Kept.refl _ _) 23
  have c22 : wB.cell? ⟨w.heap.size, 22, none⟩ = some (.slice s.fa p.filters.length s.fc) := CB.out wB (Kept.refl _ _) 22
  have c24 : wB.cell? ⟨w.heap.size, 24, none⟩ = some (.slice s.pa p.props.length s.pc) := CB.out wB (Kept.refl _ _) 24
  have c13 : wB.cell? ⟨w.heap.size, 13, none⟩ = some (.slice s.wa p.willProps.length s.wc) := CB.out wB (Kept.refl _ _) 13
  go_wp2
  go_ret
  exact fewIs_no hkB
 have hI3 : decide ((30 : Int) < (p.willProps.length : Int)) = false := by simp; omega
 have hpB := hp.kept hkB
 obtain ⟨hwB, hfB, hcB, hprB⟩ := hpB
 go_enter Tryz.func15, Tryz.ntmps15
 refine wp_seq_k (fun K9 hK9 => ?_)
 have HK := Lib.hid hK9
 clear hK9
 unfold Pk.val
 go_wp2
 refine HK.out _ _ ?_
 clear HK K9
 change Code.wp _ _ _ _ (w.alloc (.cells (p.cells s) 27))
 generalize w.alloc (.cells (p.cells s) 27) = wB at *
 have c7 : wB.cell? ⟨w.heap.size, 7, none⟩ = some (.string p.client) := CB.out wB (Kept.refl _ _) 7
 have c14 : wB.cell? ⟨w.heap.size, 14, none⟩ = some (.string p.willTopic) := CB.out wB (Kept.refl _ _) 14
 have c15 : wB.cell? ⟨w.heap.size, 15, none⟩ = some (.string p.willLoad) := CB.out wB (Kept.refl _ _) 15
 have c16 : wB.cell? ⟨w.heap.size, 16, none⟩ = some (.string p.user) := CB.out wB (Kept.refl _ _) 16
 have c17 : wB.cell? ⟨w.heap.size, 17, none⟩ = some (.string p.pass) := CB.out wB (Kept.refl _ _) 17
 have c20 : wB.cell? ⟨w.heap.size, 20, none⟩ = some (.string p.topic) := CB.out wB (Kept.refl _ _) 20
 have c21 : wB.cell? ⟨w.heap.size, 21, none⟩ = some (.string p.load) := CB.out wB (Kept.refl _ _) 21
 have c23 : wB.cell? ⟨w.heap.size, 23, none⟩ = some (.slice s.ca p.codes.length s.cc) := CB.out wB (Kept.refl _ _) 23
 have c22 : wB.cell? ⟨w.heap.size, 22, none⟩ = some (.slice s.fa p.filters.length s.fc) := CB.out wB (Kept.refl _ _) 22
 have c24 : wB.cell? ⟨w.heap.size, 24, none⟩ = some (.slice s.pa p.props.length s.pc) := CB.out wB (Kept.refl _ _) 24
 have c13 : wB.cell? ⟨w.heap.size, 13, none⟩ = some (.slice s.wa p.willProps.length s.wc) := CB.out wB (Kept.refl _ _) 13
 go_wp2
 go_loop [4] (fun i => ∃ j : Nat, i = .int .i64 j ∧ j ≤ p.filters.length ∧ Hid (∀ k (h : k < p.filters.length), k < j → p.filters[k].text.size ≤ 300)) (fun i => p.filters.length - (intOf i).toNat)
 case atStart => exact ⟨0, rfl, by omega, Lib.hid (by intro k h hk; omega)⟩
 case round =>
 obtain ⟨j, rfl, hj, HA22⟩ := hrel
 by_cases hlt : j < p.filters.length
 ·obtain ⟨b, off, hsa, hb, q0, q1⟩ := hfB.filt hlt
  have y : wB.cell? ⟨w.heap.size, 22, none⟩ = some (.slice (some ⟨b, off, none⟩) p.filters.length s.fc) := by rw [c22, hsa]
  clear c22 hsa
  have hxx := HR12.out _ (List.getElem_mem hlt)
  have HE : Hid (∀ (x : Fi), p.filters[j] = x → x.text.size ≤ 300 → ∀ k (h : k < p.filters.length), k < j + 1 → p.filters[k].text.size ≤ 300) := Lib.hid (fun x hx hb k hk hkj => by
   by_cases e : k = j
   ·subst e; rw [hx]; exact hb
   ·exact HA22.out k hk (by omega))
  generalize hxe : p.filters[j] = x at *
  have HX := Lib.hid (HE.out x rfl)
  clear HE hxe
  obtain ⟨tx, ox⟩ := x
  dsimp only at q0 q1 hxx HX
  by_cases ht : tx.size ≤ 300
  ·have htI : decide ((300 : Int) < (tx.size : Int)) = false := by simp; omega
   go_wp2
   go_round
   case rel => exact ⟨j + 1, by go_num, by omega, Lib.hid (HX.out ht)⟩
   case measure => simp [intOf]; omega
  ·have htI : (300 : Int) < (tx.size : Int) := by omega
   go_wp2
   go_ret
   exact fewIs_no hkB
 have hje : j = p.filters.length := by omega
 have HB22 : Hid (∀ k (h : k < p.filters.length), p.filters[k].text.size ≤ 300) := Lib.hid (fun k h => HA22.out k h (by omega))
 clear HA22 hje
 go_wp2
 go_loop [5] (fun i => ∃ j : Nat, i = .int .i64 j ∧ j ≤ p.props.length ∧ Hid (∀ k (h : k < p.props.length), k < j → (p.props[k].a.size ≤ 300 ∧ p.props[k].b.size ≤ 300))) (fun i => p.props.length - (intOf i).toNat)
 case atStart => exact ⟨0, rfl, by omega, Lib.hid (by intro k h hk; omega)⟩
 case round =>
 obtain ⟨j, rfl, hj, HA24⟩ := hrel
 by_cases hlt : j < p.props.length
 ·obtain ⟨b, off, hsa, hb, q0, q1, q2, q3⟩ := hprB.prop hlt
  have y : wB.cell? ⟨w.heap.size, 24, none⟩ = some (.slice (some ⟨b, off, none⟩) p.props.length s.pc) := by rw [c24, hsa]
  clear c24 hsa
  have hxx := HR13.out _ (List.getElem_mem hlt)
  have HE : Hid (∀ (x : Pr), p.props[j] = x → (x.a.size ≤ 300 ∧ x.b.size ≤ 300) → ∀ k (h : k < p.props.length), k < j + 1 → (p.props[k].a.size ≤ 300 ∧ p.props[k].b.size ≤ 300)) := Lib.hid (fun x hx hb k hk hkj => by
   by_cases e : k = j
   ·subst e; rw [hx]; exact hb
   ·exact HA24.out k hk (by omega))
  generalize hxe : p.props[j] = x at *
  have HX := Lib.hid (HE.out x rfl)
  clear HE hxe
  obtain ⟨i9, n9, tx, ty⟩ := x
  dsimp only at q0 q1 q2 q3 hxx HX
  obtain ⟨hx1, hx2⟩ := hxx
  by_cases ht : tx.size ≤ 300
  ·have htI : decide ((300 : Int) < (tx.size : Int)) = false := by simp; omega
   by_cases hu : ty.size ≤ 300
   ·have huI : decide ((300 : Int) < (ty.size : Int)) = false := by simp; omega
    go_wp2
    go_round
    case rel => exact ⟨j + 1, by go_num, by omega, Lib.hid (HX.out ⟨ht, hu⟩)⟩
    case measure => simp [intOf]; omega
   ·have huI : (300 : Int) < (ty.size : Int) := by omega
    go_wp2
    go_ret
    exact fewIs_no hkB
  ·have htI : (300 : Int) < (tx.size : Int) := by omega
   go_wp2
   go_ret
   exact fewIs_no hkB
 have hje : j = p.props.length := by omega
 have HB24 : Hid (∀ k (h : k < p.props.length), (p.props[k].a.size ≤ 300 ∧ p.props[k].b.size ≤ 300)) := Lib.hid (fun k h => HA24.out k h (by omega))
 clear HA24 hje
 go_wp2
 go_loop [6] (fun i => ∃ j : Nat, i = .int .i64 j ∧ j ≤ p.willProps.length ∧ Hid (∀ k (h : k < p.willProps.length), k < j → (p.willProps[k].a.size ≤ 300 ∧ p.willProps[k].b.size ≤ 300))) (fun i => p.willProps.length - (intOf i).toNat)
 case atStart => exact ⟨0, rfl, by omega, Lib.hid (by intro k h hk; omega)⟩
 case round =>
 obtain ⟨j, rfl, hj, HA13⟩ := hrel
 by_cases hlt : j < p.willProps.length
 ·obtain ⟨b, off, hsa, hb, q0, q1, q2, q3⟩ := hwB.prop hlt
  have y : wB.cell? ⟨w.heap.size, 13, none⟩ = some (.slice (some ⟨b, off, none⟩) p.willProps.length s.wc) := by rw [c13, hsa]
  clear c13 hsa
  have hxx := HR14.out _ (List.getElem_mem hlt)
  have HE : Hid (∀ (x : Pr), p.willProps[j] = x → (x.a.size ≤ 300 ∧ x.b.size ≤ 300) → ∀ k (h : k < p.willProps.length), k < j + 1 → (p.willProps[k].a.size ≤ 300 ∧ p.willProps[k].b.size ≤ 300)) := Lib.hid (fun x hx hb k hk hkj => by
   by_cases e : k = j
   ·subst e; rw [hx]; exact hb
   ·exact HA13.out k hk (by omega))
  generalize hxe : p.willProps[j] = x at *
  have HX := Lib.hid (HE.out x rfl)
  clear HE hxe
  obtain ⟨i9, n9, tx, ty⟩ := x
  dsimp only at q0 q1 q2 q3 hxx HX
  obtain ⟨hx1, hx2⟩ := hxx
  by_cases ht : tx.size ≤ 300
  ·have htI : decide ((300 : Int) < (tx.size : Int)) = false := by simp; omega
   by_cases hu : ty.size ≤ 300
   ·have huI : decide ((300 : Int) < (ty.size : Int)) = false := by simp; omega
    go_wp2
    go_round
    case rel => exact ⟨j + 1, by go_num, by omega, Lib.hid (HX.out ⟨ht, hu⟩)⟩
    case measure => simp [intOf]; omega
   ·have huI : (300 : Int) < (ty.size : Int) := by omega
    go_wp2
    go_ret
    exact fewIs_no hkB
  ·have htI : (300 : Int) < (tx.size : Int) := by omega
   go_wp2
   go_ret
   exact fewIs_no hkB
 have hje : j = p.willProps.length := by omega
 have HB13 : Hid (∀ k (h : k < p.willProps.length), (p.willProps[k].a.size ≤ 300 ∧ p.willProps[k].b.size ≤ 300)) := Lib.hid (fun k h => HA13.out k h (by omega))
 clear HA13 hje
 go_wp2
 go_ret
 refine ⟨true, rfl, fun _ => ⟨hs, h1, h2, h3, fun f hf => ?_, fun f hf => ?_, fun f hf => ?_⟩, hkB⟩
 ·obtain ⟨k, hk, rfl⟩ := List.getElem_of_mem hf; exact HB22.out k hk
 ·obtain ⟨k, hk, rfl⟩ := List.getElem_of_mem hf; exact HB24.out k hk
 ·obtain ⟨k, hk, rfl⟩ := List.getElem_of_mem hf; exact HB13.out k hk
end Go.Proofs.YtomppebamfpimaaGreatDoor
