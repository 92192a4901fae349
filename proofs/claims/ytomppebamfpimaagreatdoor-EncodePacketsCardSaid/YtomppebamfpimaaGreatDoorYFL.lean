import Derived.Test.YtomppebamfpimaaGreatDoorYFC
namespace Go.Proofs.YtomppebamfpimaaGreatDoor
open Go.RowKit
set_option linter.unusedVariables false
set_option linter.unusedSimpArgs false
set_option maxRecDepth 100000
theorem fsst_no {w : World} {zb B size n : Nat} {e : TypeId} {v : Value} {xs : List Value} {c : Array Value} (hb : Blk w zb 27 c) (h : w.ownsRow B 83 size v n xs) (h1 : 27 ≠ e) (h2 : 83 ≠ e) : ∀ g cur, SSt zb v g → w.heap[g]? = some (.cells cur e (0, 0)) → False := by
 intro g cur hg hx
 rcases hg with h | h
 ·subst h; exact h1 (blk_eq hb hx)
 ·obtain ⟨cu, hcu⟩ := own_typed ‹w.ownsRow B 83 size v n xs› h; exact h2 (blk_eq hcu hx)
theorem fsst_ge {w : World} {wB : World} {zb size n : Nat} {v : Value} {xs : List Value} (h : w.ownsRow wB.heap.size 83 size v n xs) (hz : wB.heap.size ≤ zb) : ∀ i, i < wB.heap.size → SSt zb v i → No i := by
 intro i hi hS
 rcases hS with h' | h'
 ·omega
 ·have := (h.lt i h').1; omega
theorem fto_set {w : World} {zb j : Nat} {p : Pk} {s' : Sl} {af : Option Addr} {cf cn : Nat} {an : Option Addr} {f : Fi} (hb : Blk w zb 27 (Pk.cells { p with filters := p.filters.take j } { s' with fa := af, fc := cf })) (hT : p.filters.take (j + 1) = p.filters.take j ++ [f]) (hl : (p.filters.take (j + 1)).length = j + 1) :
  Blk (w.setCell ⟨zb, 22, none⟩ (.slice an (j + 1) cn)) zb 27 (Pk.cells { p with filters := p.filters.take (j + 1) } { s' with fa := an, fc := cn }) := by
 have h := hb.set_ 22 (.slice an (j + 1) cn)
 have e : (Pk.cells { p with filters := p.filters.take j } { s' with fa := af, fc := cf }).setIfInBounds 22 (.slice an (j + 1) cn) = Pk.cells { p with filters := p.filters.take (j + 1) } { s' with fa := an, fc := cn } := by
  simp only [Pk.cells, hl]
  rfl
 rw [e] at h
 exact h
theorem fto_own {w : World} {zb B n : Nat} {v u : Value} {c : Array Value} {L : List Fi} {f : Fi} {j : Nat} (h : w.ownsRow B 83 2 v n (FC (L.take j) ++ FC [f])) (hb : Blk w zb 27 c) (hT : L.take (j + 1) = L.take j ++ [f]) : (w.setCell ⟨zb, 22, none⟩ u).ownsRow B 83 2 v n (FC (L.take (j + 1))) := by
 rw [hT, FC_append]
 exact own_blk h hb (by decide) (Kept.setCell (S := One zb) (Kept.refl (One zb) w) (p := ⟨zb, 22, none⟩) (.inr rfl) u)
theorem finfo_filt : (Tryz.prog.info? 83).map (fun i => (i.zero, i.size, i.bytes)) = some (some (.agg #[.string ⟨#[]⟩, .int .u8 0]), 2, 24) := by kernel_rfl
structure FromB (base : Nat) (p : Pk) (zb : Nat) (s : Sl) (w : World) : Prop where
 blk : Blk w zb 27 ({ p with filters := [] }.cells s)
 sf : s.fa = none ∧ s.fc = 0
 ow : w.ownsRow base 86 4 (.slice s.wa p.willProps.length s.wc) p.willProps.length (PC p.willProps)
 op : w.ownsRow base 86 4 (.slice s.pa p.props.length s.pc) p.props.length (PC p.props)
 oc : w.ownsRow base 5 1 (.slice s.ca p.codes.length s.cc) p.codes.length (B8 p.codes)
set_option maxHeartbeats 8000000 in
theorem pkfrom_any (p : Pk) (s : Sl) (w : World) (hp : p.At s w) (hpf : p.few) (hcn : s.ca = none → p.codes.length = 0 ∧ s.cc = 0) :
  Calls Tryz.prog 24 #[p.val s] w fun e w' => ∃ s', e = .returned (p.val s') ∧ p.At s' w' ∧ Kept No w w' ∧ (s'.ca = none → p.codes.length = 0 ∧ s'.cc = 0) := by
 unfold Pk.val
 go_enter Tryz.func24, Tryz.ntmps24
 go_wp2
 have hkB : Kept No w ((w.alloc (.cells (p.cells s) 33)).alloc (.cells zeroPk 27)) := ((Kept.refl No w).alloc _).alloc _
 have hB1 := (Blk.new w 33 (p.cells s)).alloc (.cells zeroPk 27)
 have hB2 := Blk.new (w.alloc (.cells (p.cells s) 33)) 27 zeroPk
 simp only [World.size_alloc] at hB2
 have hszB : w.heap.size + 2 ≤ ((w.alloc (.cells (p.cells s) 33)).alloc (.cells zeroPk 27)).heap.size := by simp
 change Code.wp _ _ _ _ ((w.alloc (.cells (p.cells s) 33)).alloc (.cells zeroPk 27))
 generalize (w.alloc (.cells (p.cells s) 33)).alloc (.cells zeroPk 27) = wB at *
 have CB := Lib.hid (show ∀ wx, Kept No wB wx → ∀ i, wx.cell? ⟨w.heap.size, i, none⟩ = (p.cells s)[i]? from fun wx hk i => (hB1.kept hk (fun f => f)).cell i)
 go_cut [3] from 5 to 57 (fun z wx => ∃ zb s', z = .pointer (some ⟨zb, 0, none⟩) ∧ wB.heap.size ≤ zb ∧ FromB wB.heap.size p zb s' wx ∧ Kept No wB wx)
 case first =>
  refine wp_region_held_drew (S := (fun wx => Kept No wB wx)) (by kernel_rfl) ?_ (fun hHeld => ?_)
  ·exact (Kept.refl No wB).drew
  generalize wB.drew = W0 at *
  refine wtk (i := 0) (v := (.pointer (some ⟨w.heap.size, 0, none⟩))) rfl (Or.inl ⟨by rfl, ?hhld0⟩) (by assumption) ?rrld0
  case hhld0 => (intro wz9 hSw; go_simp; try with_reducible rfl)
  go_simp
  refine wtk (i := 1) (v := (.int .i64 p.kind)) rfl (Or.inl ⟨by rfl, ?hhld1⟩) (by assumption) ?rrld1
  case hhld1 => (intro wz9 hSw; have hc : wz9.cell? ⟨w.heap.size, 0, none⟩ = some (.int .i64 p.kind) := (CB.out wz9 hSw 0).trans rfl; go_simp; try with_reducible rfl)
  go_simp
  refine wtk (i := 2) (v := (.pointer (some ⟨w.heap.size, 1, none⟩))) rfl (Or.inl ⟨by rfl, ?hhld2⟩) (by assumption) ?rrld2
  case hhld2 => (intro wz9 hSw; go_simp; try with_reducible rfl)
  go_simp
  refine wtk (i := 3) (v := (.bool p.dup)) rfl (Or.inl ⟨by rfl, ?hhld3⟩) (by assumption) ?rrld3
  case hhld3 => (intro wz9 hSw; have hc : wz9.cell? ⟨w.heap.size, 1, none⟩ = some (.bool p.dup) := (CB.out wz9 hSw 1).trans rfl; go_simp; try with_reducible rfl)
  go_simp
  refine wtk (i := 4) (v := (.pointer (some ⟨w.heap.size, 2, none⟩))) rfl (Or.inl ⟨by rfl, ?hhld4⟩) (by assumption) ?rrld4
  case hhld4 => (intro wz9 hSw; go_simp; try with_reducible rfl)
  go_simp
  refine wtk (i := 5) (v := (.bool p.retain)) rfl (Or.inl ⟨by rfl, ?hhld5⟩) (by assumption) ?rrld5
  case hhld5 => (intro wz9 hSw; have hc : wz9.cell? ⟨w.heap.size, 2, none⟩ = some (.bool p.retain) := (CB.out wz9 hSw 2).trans rfl; go_simp; try with_reducible rfl)
  go_simp
  refine wtk (i := 6) (v := (.pointer (some ⟨w.heap.size, 3, none⟩))) rfl (Or.inl ⟨by rfl, ?hhld6⟩) (by assumption) ?rrld6
  case hhld6 => (intro wz9 hSw; go_simp; try with_reducible rfl)
  go_simp
  refine wtk (i := 7) (v := (.int .u8 p.qos)) rfl (Or.inl ⟨by rfl, ?hhld7⟩) (by assumption) ?rrld7
  case hhld7 => (intro wz9 hSw; have hc : wz9.cell? ⟨w.heap.size, 3, none⟩ = some (.int .u8 p.qos) := (CB.out wz9 hSw 3).trans rfl; go_simp; try with_reducible rfl)
  go_simp
  refine wtk (i := 8) (v := (.pointer (some ⟨w.heap.size, 4, none⟩))) rfl (Or.inl ⟨by rfl, ?hhld8⟩) (by assumption) ?rrld8
  case hhld8 => (intro wz9 hSw; go_simp; try with_reducible rfl)
  go_simp
  refine wtk (i := 9) (v := (.int .u16 p.id)) rfl (Or.inl ⟨by rfl, ?hhld9⟩) (by assumption) ?rrld9
  case hhld9 => (intro wz9 hSw; have hc : wz9.cell? ⟨w.heap.size, 4, none⟩ = some (.int .u16 p.id) := (CB.out wz9 hSw 4).trans rfl; go_simp; try with_reducible rfl)
  go_simp
  refine wtk (i := 10) (v := (.pointer (some ⟨w.heap.size, 5, none⟩))) rfl (Or.inl ⟨by rfl, ?hhld10⟩) (by assumption) ?rrld10
  case hhld10 => (intro wz9 hSw; go_simp; try with_reducible rfl)
  go_simp
  refine wtk (i := 11) (v := (.bool p.clean)) rfl (Or.inl ⟨by rfl, ?hhld11⟩) (by assumption) ?rrld11
  case hhld11 => (intro wz9 hSw; have hc : wz9.cell? ⟨w.heap.size, 5, none⟩ = some (.bool p.clean) := (CB.out wz9 hSw 5).trans rfl; go_simp; try with_reducible rfl)
  go_simp
  refine wtk (i := 12) (v := (.pointer (some ⟨w.heap.size, 6, none⟩))) rfl (Or.inl ⟨by rfl, ?hhld12⟩) (by assumption) ?rrld12
  case hhld12 => (intro wz9 hSw; go_simp; try with_reducible rfl)
  go_simp
  refine wtk (i := 13) (v := (.int .u16 p.keep)) rfl (Or.inl ⟨by rfl, ?hhld13⟩) (by assumption) ?rrld13
  case hhld13 => (intro wz9 hSw; have hc : wz9.cell? ⟨w.heap.size, 6, none⟩ = some (.int .u16 p.keep) := (CB.out wz9 hSw 6).trans rfl; go_simp; try with_reducible rfl)
  go_simp
  refine wtk (i := 14) (v := (.pointer (some ⟨w.heap.size, 7, none⟩))) rfl (Or.inl ⟨by rfl, ?hhld14⟩) (by assumption) ?rrld14
  case hhld14 => (intro wz9 hSw; go_simp; try with_reducible rfl)
  go_simp
  refine wtk (i := 15) (v := (.string p.client)) rfl (Or.inl ⟨by rfl, ?hhld15⟩) (by assumption) ?rrld15
  case hhld15 => (intro wz9 hSw; have hc : wz9.cell? ⟨w.heap.size, 7, none⟩ = some (.string p.client) := (CB.out wz9 hSw 7).trans rfl; go_simp; try with_reducible rfl)
  go_simp
  refine wtk (i := 16) (v := (.pointer (some ⟨w.heap.size, 8, none⟩))) rfl (Or.inl ⟨by rfl, ?hhld16⟩) (by assumption) ?rrld16
  case hhld16 => (intro wz9 hSw; go_simp; try with_reducible rfl)
  go_simp
  refine wtk (i := 17) (v := (.bool p.hasWill)) rfl (Or.inl ⟨by rfl, ?hhld17⟩) (by assumption) ?rrld17
  case hhld17 => (intro wz9 hSw; have hc : wz9.cell? ⟨w.heap.size, 8, none⟩ = some (.bool p.hasWill) := (CB.out wz9 hSw 8).trans rfl; go_simp; try with_reducible rfl)
  go_simp
  refine wtk (i := 18) (v := (.pointer (some ⟨w.heap.size, 9, none⟩))) rfl (Or.inl ⟨by rfl, ?hhld18⟩) (by assumption) ?rrld18
  case hhld18 => (intro wz9 hSw; go_simp; try with_reducible rfl)
  go_simp
  refine wtk (i := 19) (v := (.bool p.hasUser)) rfl (Or.inl ⟨by rfl, ?hhld19⟩) (by assumption) ?rrld19
  case hhld19 => (intro wz9 hSw; have hc : wz9.cell? ⟨w.heap.size, 9, none⟩ = some (.bool p.hasUser) := (CB.out wz9 hSw 9).trans rfl; go_simp; try with_reducible rfl)
  go_simp
  refine wtk (i := 20) (v := (.pointer (some ⟨w.heap.size, 10, none⟩))) rfl (Or.inl ⟨by rfl, ?hhld20⟩) (by assumption) ?rrld20
  case hhld20 => (intro wz9 hSw; go_simp; try with_reducible rfl)
  go_simp
  refine wtk (i := 21) (v := (.bool p.hasPass)) rfl (Or.inl ⟨by rfl, ?hhld21⟩) (by assumption) ?rrld21
  case hhld21 => (intro wz9 hSw; have hc : wz9.cell? ⟨w.heap.size, 10, none⟩ = some (.bool p.hasPass) := (CB.out wz9 hSw 10).trans rfl; go_simp; try with_reducible rfl)
  go_simp
  refine wtk (i := 22) (v := (.pointer (some ⟨w.heap.size, 11, none⟩))) rfl (Or.inl ⟨by rfl, ?hhld22⟩) (by assumption) ?rrld22
  case hhld22 => (intro wz9 hSw; go_simp; try with_reducible rfl)
  go_simp
  refine wtk (i := 23) (v := (.int .u8 p.willQoS)) rfl (Or.inl ⟨by rfl, ?hhld23⟩) (by assumption) ?rrld23
  case hhld23 => (intro wz9 hSw; have hc : wz9.cell? ⟨w.heap.size, 11, none⟩ = some (.int .u8 p.willQoS) := (CB.out wz9 hSw 11).trans rfl; go_simp; try with_reducible rfl)
  go_simp
  refine wtk (i := 24) (v := (.pointer (some ⟨w.heap.size, 12, none⟩))) rfl (Or.inl ⟨by rfl, ?hhld24⟩) (by assumption) ?rrld24
  case hhld24 => (intro wz9 hSw; go_simp; try with_reducible rfl)
  go_simp
  refine wtk (i := 25) (v := (.bool p.willRetain)) rfl (Or.inl ⟨by rfl, ?hhld25⟩) (by assumption) ?rrld25
  case hhld25 => (intro wz9 hSw; have hc : wz9.cell? ⟨w.heap.size, 12, none⟩ = some (.bool p.willRetain) := (CB.out wz9 hSw 12).trans rfl; go_simp; try with_reducible rfl)
  go_simp
  refine wtk (i := 26) (v := (.pointer (some ⟨w.heap.size, 13, none⟩))) rfl (Or.inl ⟨by rfl, ?hhld26⟩) (by assumption) ?rrld26
  case hhld26 => (intro wz9 hSw; go_simp; try with_reducible rfl)
  go_simp
  refine wtk (i := 27) (v := (.slice s.wa p.willProps.length s.wc)) rfl (Or.inl ⟨by rfl, ?hhld27⟩) (by assumption) ?rrld27
  case hhld27 => (intro wz9 hSw; have hc : wz9.cell? ⟨w.heap.size, 13, none⟩ = some (.slice s.wa p.willProps.length s.wc) := (CB.out wz9 hSw 13).trans rfl; go_simp; try with_reducible rfl)
  go_simp
  refine wtk (i := 29) (v := (.pointer (some ⟨w.heap.size, 14, none⟩))) rfl (Or.inl ⟨by rfl, ?hhld29⟩) (by assumption) ?rrld29
  case hhld29 => (intro wz9 hSw; go_simp; try with_reducible rfl)
  go_simp
  refine wtk (i := 30) (v := (.string p.willTopic)) rfl (Or.inl ⟨by rfl, ?hhld30⟩) (by assumption) ?rrld30
  case hhld30 => (intro wz9 hSw; have hc : wz9.cell? ⟨w.heap.size, 14, none⟩ = some (.string p.willTopic) := (CB.out wz9 hSw 14).trans rfl; go_simp; try with_reducible rfl)
  go_simp
  refine wtk (i := 31) (v := (.pointer (some ⟨w.heap.size, 15, none⟩))) rfl (Or.inl ⟨by rfl, ?hhld31⟩) (by assumption) ?rrld31
  case hhld31 => (intro wz9 hSw; go_simp; try with_reducible rfl)
  go_simp
  refine wtk (i := 32) (v := (.string p.willLoad)) rfl (Or.inl ⟨by rfl, ?hhld32⟩) (by assumption) ?rrld32
  case hhld32 => (intro wz9 hSw; have hc : wz9.cell? ⟨w.heap.size, 15, none⟩ = some (.string p.willLoad) := (CB.out wz9 hSw 15).trans rfl; go_simp; try with_reducible rfl)
  go_simp
  refine wtk (i := 33) (v := (.pointer (some ⟨w.heap.size, 16, none⟩))) rfl (Or.inl ⟨by rfl, ?hhld33⟩) (by assumption) ?rrld33
  case hhld33 => (intro wz9 hSw; go_simp; try with_reducible rfl)
  go_simp
  refine wtk (i := 34) (v := (.string p.user)) rfl (Or.inl ⟨by rfl, ?hhld34⟩) (by assumption) ?rrld34
  case hhld34 => (intro wz9 hSw; have hc : wz9.cell? ⟨w.heap.size, 16, none⟩ = some (.string p.user) := (CB.out wz9 hSw 16).trans rfl; go_simp; try with_reducible rfl)
  go_simp
  refine wtk (i := 35) (v := (.pointer (some ⟨w.heap.size, 17, none⟩))) rfl (Or.inl ⟨by rfl, ?hhld35⟩) (by assumption) ?rrld35
  case hhld35 => (intro wz9 hSw; go_simp; try with_reducible rfl)
  go_simp
  refine wtk (i := 36) (v := (.string p.pass)) rfl (Or.inl ⟨by rfl, ?hhld36⟩) (by assumption) ?rrld36
  case hhld36 => (intro wz9 hSw; have hc : wz9.cell? ⟨w.heap.size, 17, none⟩ = some (.string p.pass) := (CB.out wz9 hSw 17).trans rfl; go_simp; try with_reducible rfl)
  go_simp
  refine wtk (i := 37) (v := (.pointer (some ⟨w.heap.size, 18, none⟩))) rfl (Or.inl ⟨by rfl, ?hhld37⟩) (by assumption) ?rrld37
  case hhld37 => (intro wz9 hSw; go_simp; try with_reducible rfl)
  go_simp
  refine wtk (i := 38) (v := (.bool p.present)) rfl (Or.inl ⟨by rfl, ?hhld38⟩) (by assumption) ?rrld38
  case hhld38 => (intro wz9 hSw; have hc : wz9.cell? ⟨w.heap.size, 18, none⟩ = some (.bool p.present) := (CB.out wz9 hSw 18).trans rfl; go_simp; try with_reducible rfl)
  go_simp
  refine wtk (i := 39) (v := (.pointer (some ⟨w.heap.size, 19, none⟩))) rfl (Or.inl ⟨by rfl, ?hhld39⟩) (by assumption) ?rrld39
  case hhld39 => (intro wz9 hSw; go_simp; try with_reducible rfl)
  go_simp
  refine wtk (i := 40) (v := (.int .u8 p.code)) rfl (Or.inl ⟨by rfl, ?hhld40⟩) (by assumption) ?rrld40
  case hhld40 => (intro wz9 hSw; have hc : wz9.cell? ⟨w.heap.size, 19, none⟩ = some (.int .u8 p.code) := (CB.out wz9 hSw 19).trans rfl; go_simp; try with_reducible rfl)
  go_simp
  refine wtk (i := 41) (v := (.pointer (some ⟨w.heap.size, 20, none⟩))) rfl (Or.inl ⟨by rfl, ?hhld41⟩) (by assumption) ?rrld41
  case hhld41 => (intro wz9 hSw; go_simp; try with_reducible rfl)
  go_simp
  refine wtk (i := 42) (v := (.string p.topic)) rfl (Or.inl ⟨by rfl, ?hhld42⟩) (by assumption) ?rrld42
  case hhld42 => (intro wz9 hSw; have hc : wz9.cell? ⟨w.heap.size, 20, none⟩ = some (.string p.topic) := (CB.out wz9 hSw 20).trans rfl; go_simp; try with_reducible rfl)
  go_simp
  refine wtk (i := 43) (v := (.pointer (some ⟨w.heap.size, 21, none⟩))) rfl (Or.inl ⟨by rfl, ?hhld43⟩) (by assumption) ?rrld43
  case hhld43 => (intro wz9 hSw; go_simp; try with_reducible rfl)
  go_simp
  refine wtk (i := 44) (v := (.string p.load)) rfl (Or.inl ⟨by rfl, ?hhld44⟩) (by assumption) ?rrld44
  case hhld44 => (intro wz9 hSw; have hc : wz9.cell? ⟨w.heap.size, 21, none⟩ = some (.string p.load) := (CB.out wz9 hSw 21).trans rfl; go_simp; try with_reducible rfl)
  go_simp
  refine wtk (i := 46) (v := (.pointer (some ⟨w.heap.size, 23, none⟩))) rfl (Or.inl ⟨by rfl, ?hhld46⟩) (by assumption) ?rrld46
  case hhld46 => (intro wz9 hSw; go_simp; try with_reducible rfl)
  go_simp
  refine wtk (i := 47) (v := (.slice s.ca p.codes.length s.cc)) rfl (Or.inl ⟨by rfl, ?hhld47⟩) (by assumption) ?rrld47
  case hhld47 => (intro wz9 hSw; have hc : wz9.cell? ⟨w.heap.size, 23, none⟩ = some (.slice s.ca p.codes.length s.cc) := (CB.out wz9 hSw 23).trans rfl; go_simp; try with_reducible rfl)
  go_simp
  refine wtk (i := 49) (v := (.pointer (some ⟨w.heap.size, 24, none⟩))) rfl (Or.inl ⟨by rfl, ?hhld49⟩) (by assumption) ?rrld49
  case hhld49 => (intro wz9 hSw; go_simp; try with_reducible rfl)
  go_simp
  refine wtk (i := 50) (v := (.slice s.pa p.props.length s.pc)) rfl (Or.inl ⟨by rfl, ?hhld50⟩) (by assumption) ?rrld50
  case hhld50 => (intro wz9 hSw; have hc : wz9.cell? ⟨w.heap.size, 24, none⟩ = some (.slice s.pa p.props.length s.pc) := (CB.out wz9 hSw 24).trans rfl; go_simp; try with_reducible rfl)
  go_simp
  refine wpAnyH_ready (rs := [28, 45, 53]) (by kernel_rfl) (by simp) ?_
  refine AllReadyH.cons rfl (fun K9 hK9 => ?_) (AllReadyH.cons rfl (fun K9 hK9 => ?_) (AllReadyH.cons rfl (fun K9 hK9 => ?_) AllReadyH.nil))
  ·go_simp
   go_wp2_with (go_at_call 52; refine (fromlist_any s.wa s.wc p.willProps _ (hp.kept (hkB.trans hHeld)).hw hpf.hw).mono ?_; rintro e w28 ⟨a28, c28, rfl, ow28, k28⟩)
   have ow28 := own_mono ow28 hHeld.size
   refine hK9.out _ _ ?_ (fun hHeld2 => ?_)
   ·exact hHeld.trans k28
   clear hK9 K9 hHeld
   have hHeld := hHeld2
   clear hHeld2
   refine wpAnyH_ready (rs := [45, 53]) (by kernel_rfl) (by simp) ?_
   refine AllReadyH.cons rfl (fun K9 hK9 => ?_) (AllReadyH.cons rfl (fun K9 hK9 => ?_) AllReadyH.nil)
   ·go_simp
    have ow45 := own_empty w28 wB.heap.size 5 hHeld.size
    have k45 : Kept No w28 (w28.alloc (.cells #[] 5)) := (Kept.refl No _).alloc _
    obtain ⟨g45, hg45⟩ : ∃ g, g = w28.heap.size := ⟨_, rfl⟩
    rw [← hg45] at ow45
    rw [← hg45]
    clear hg45
    generalize w28.alloc (.cells #[] 5) = w45 at *
    refine hK9.out _ _ ?_ (fun hHeld2 => ?_)
    ·exact hHeld.trans k45
    clear hK9 K9 hHeld
    have hHeld := hHeld2
    clear hHeld2
    refine wpAnyH_ready (rs := [48, 53]) (by kernel_rfl) (by simp) ?_
    refine AllReadyH.cons rfl (fun K9 hK9 => ?_) (AllReadyH.cons rfl (fun K9 hK9 => ?_) AllReadyH.nil)
    ·have ow45b := ow45
     obtain ⟨v48, w48, hrun48, ow48, hg48, hv48⟩ := append_bytes w45 wB.heap.size g45 s.ca s.cc p.codes ow45b (hp.kept (hkB.trans hHeld)).hc hcn (by have := hpf.hc; omega) hHeld.size
     have k48 : Kept No wB w48 := hHeld.grown hg48 (fun k e => .inl (by have := ow45b.lt k e; exact this.1))
     have k48b : Kept (One g45) w45 w48 := (Kept.refl _ _).grown hg48 (fun k e => .inr (by simp [Value.ownBlock] at e; exact e.symm))
     obtain ⟨a48, c48, rfl, _, _⟩ := own_form ow48
     refine (if_pos (show Region.wanted _ _ = true from rfl)).mpr ?_
     refine op_appendN (.tmp 50) (.tmp 52) 25 rfl rfl rfl hrun48 ?_
     refine hK9.out _ _ ?_ (fun hHeld2 => ?_)
     ·exact k48
     clear hK9 K9 hHeld
     have hHeld := hHeld2
     clear hHeld2
     go_simp
     refine wpAnyH_ready (rs := [51, 53]) (by kernel_rfl) (by simp) ?_
     refine AllReadyH.cons rfl (fun K9 hK9 => ?_) (AllReadyH.cons rfl (fun K9 hK9 => ?_) AllReadyH.nil)
     ·go_simp
      go_wp2_with (go_at_call 52; refine (fromlist_any s.pa s.pc p.props _ (hp.kept (hkB.trans hHeld)).hp hpf.hp).mono ?_; rintro e w51 ⟨a51, c51, rfl, ow51, k51⟩)
      have ow51 := own_mono ow51 hHeld.size
      refine hK9.out _ _ ?_ (fun hHeld2 => ?_)
      ·exact hHeld.trans k51
      clear hK9 K9 hHeld
      have hHeld := hHeld2
      clear hHeld2
      go_simp
      refine wtk (i := 52) (v := .agg (Pk.cells { p with filters := [] } ⟨a28, c28, none, 0, a48, c48, a51, c51⟩)) rfl (Or.inl ⟨by rfl, ?hhu28_45_48⟩) (by assumption) ?rru28_45_48
      case hhu28_45_48 => (intro wz9 hSw; trace "B0"; refine run_value (run_build wz9 _ _ _ ?_); kernel_rfl)
      trace "B1"
      go_simp
      trace "B2"
      refine wpAnyH_ready (rs := [53]) (by kernel_rfl) (by simp) ?_
      refine AllReadyH.cons rfl (fun K9 hK9 => ?_) AllReadyH.nil
      ·go_simp
       have b53 := Blk.new w51 27 #[.int .i64 0, .bool false, .bool false, .int .u8 0, .int .u16 0, .bool false, .int .u16 0, .string ⟨#[]⟩, .bool false, .bool false, .bool false, .int .u8 0, .bool false, .slice none 0 0, .string ⟨#[]⟩, .string ⟨#[]⟩, .string ⟨#[]⟩, .string ⟨#[]⟩, .bool false, .int .u8 0, .string ⟨#[]⟩, .string ⟨#[]⟩, .slice none 0 0, .slice none 0 0, .slice none 0 0]
       have k53 : Kept No w51 (w51.alloc (.cells #[.int .i64 0, .bool false, .bool false, .int .u8 0, .int .u16 0, .bool false, .int .u16 0, .string ⟨#[]⟩, .bool false, .bool false, .bool false, .int .u8 0, .bool false, .slice none 0 0, .string ⟨#[]⟩, .string ⟨#[]⟩, .string ⟨#[]⟩, .string ⟨#[]⟩, .bool false, .int .u8 0, .string ⟨#[]⟩, .string ⟨#[]⟩, .slice none 0 0, .slice none 0 0, .slice none 0 0] 27)) := (Kept.refl No _).alloc _
       have z53 := hHeld.size
       obtain ⟨g53, hg53⟩ : ∃ g, g = w51.heap.size := ⟨_, rfl⟩
       rw [← hg53] at b53 z53
       rw [← hg53]
       clear hg53
       generalize w51.alloc (.cells #[.int .i64 0, .bool false, .bool false, .int .u8 0, .int .u16 0, .bool false, .int .u16 0, .string ⟨#[]⟩, .bool false, .bool false, .bool false, .int .u8 0, .bool false, .slice none 0 0, .string ⟨#[]⟩, .string ⟨#[]⟩, .string ⟨#[]⟩, .string ⟨#[]⟩, .bool false, .int .u8 0, .string ⟨#[]⟩, .string ⟨#[]⟩, .slice none 0 0, .slice none 0 0, .slice none 0 0] 27) = w53 at *
       refine hK9.out _ _ ?_ (fun hHeld2 => ?_)
       ·exact hHeld.trans k53
       clear hK9 K9 hHeld
       have hHeld := hHeld2
       clear hHeld2
       have e28 := (own_keptNo (own_keptNo (own_typ (own_keptNo ow28 k45) ow45b (by decide) k48b) k51) k53)
       have e51 := (own_keptNo ow51 k53)
       have e48 := (own_keptNo (own_keptNo ow48 k51) k53)
       have e53 := b53
       trace "L0"
       obtain ⟨w54, hst, b54, k54⟩ := store_agg (P := Tryz.prog) (S := 27) (c := Pk.cells { p with filters := [] } ⟨a28, c28, none, 0, a48, c48, a51, c51⟩) w53 e53 (by kernel_rfl) rfl (pk_one _ _)
       trace "L1"
       refine wpAnyH_ready (rs := [54]) (by kernel_rfl) (by simp) ?_
       refine AllReadyH.cons rfl (fun K9 hK9 => ?_) AllReadyH.nil
       refine (if_pos (show Region.wanted _ _ = true from rfl)).mpr ?_
       refine op_storeN 27 (.tmp 3) (.tmp 57) rfl rfl rfl hst ?_
       trace "L2"
       refine hK9.out _ _ ?_ (fun hHeld2 => ?_)
       ·exact hHeld.then k54 (fun i hi e => by have : i = g53 := e; omega)
       clear hK9 K9
       refine wpAnyH_done (by kernel_rfl) ?_ _
       trace "L3"
       go_wp2
       trace "L4"
       go_meet
       exact ⟨g53, ⟨a28, c28, none, 0, a48, c48, a51, c51⟩, rfl, z53, ⟨b54, ⟨rfl, rfl⟩, own_blk e28 e53 (by decide) k54, own_blk e51 e53 (by decide) k54, own_blk e48 e53 (by decide) k54⟩, hHeld2⟩
     ·go_simp
      have b53 := Blk.new w48 27 #[.int .i64 0, .bool false, .bool false, .int .u8 0, .int .u16 0, .bool false, .int .u16 0, .string ⟨#[]⟩, .bool false, .bool false, .bool false, .int .u8 0, .bool false, .slice none 0 0, .string ⟨#[]⟩, .string ⟨#[]⟩, .string ⟨#[]⟩, .string ⟨#[]⟩, .bool false, .int .u8 0, .string ⟨#[]⟩, .string ⟨#[]⟩, .slice none 0 0, .slice none 0 0, .slice none 0 0]
      have k53 : Kept No w48 (w48.alloc (.cells #[.int .i64 0, .bool false, .bool false, .int .u8 0, .int .u16 0, .bool false, .int .u16 0, .string ⟨#[]⟩, .bool false, .bool false, .bool false, .int .u8 0, .bool false, .slice none 0 0, .string ⟨#[]⟩, .string ⟨#[]⟩, .string ⟨#[]⟩, .string ⟨#[]⟩, .bool false, .int .u8 0, .string ⟨#[]⟩, .string ⟨#[]⟩, .slice none 0 0, .slice none 0 0, .slice none 0 0] 27)) := (Kept.refl No _).alloc _
      have z53 := hHeld.size
      obtain ⟨g53, hg53⟩ : ∃ g, g = w48.heap.size := ⟨_, rfl⟩
      rw [← hg53] at b53 z53
      rw [← hg53]
      clear hg53
      generalize w48.alloc (.cells #[.int .i64 0, .bool false, .bool false, .int .u8 0, .int .u16 0, .bool false, .int .u16 0, .string ⟨#[]⟩, .bool false, .bool false, .bool false, .int .u8 0, .bool false, .slice none 0 0, .string ⟨#[]⟩, .string ⟨#[]⟩, .string ⟨#[]⟩, .string ⟨#[]⟩, .bool false, .int .u8 0, .string ⟨#[]⟩, .string ⟨#[]⟩, .slice none 0 0, .slice none 0 0, .slice none 0 0] 27) = w53 at *
      refine hK9.out _ _ ?_ (fun hHeld2 => ?_)
      ·exact hHeld.trans k53
      clear hK9 K9 hHeld
      have hHeld := hHeld2
      clear hHeld2
      refine wpAnyH_ready (rs := [51]) (by kernel_rfl) (by simp) ?_
      refine AllReadyH.cons rfl (fun K9 hK9 => ?_) AllReadyH.nil
      ·go_simp
       go_wp2_with (go_at_call 52; refine (fromlist_any s.pa s.pc p.props _ (hp.kept (hkB.trans hHeld)).hp hpf.hp).mono ?_; rintro e w51 ⟨a51, c51, rfl, ow51, k51⟩)
       have ow51 := own_mono ow51 hHeld.size
       refine hK9.out _ _ ?_ (fun hHeld2 => ?_)
       ·exact hHeld.trans k51
       clear hK9 K9 hHeld
       have hHeld := hHeld2
       clear hHeld2
       go_simp
       refine wtk (i := 52) (v := .agg (Pk.cells { p with filters := [] } ⟨a28, c28, none, 0, a48, c48, a51, c51⟩)) rfl (Or.inl ⟨by rfl, ?hhu28_45_48_53⟩) (by assumption) ?rru28_45_48_53
       case hhu28_45_48_53 => (intro wz9 hSw; trace "B0"; refine run_value (run_build wz9 _ _ _ ?_); kernel_rfl)
       trace "B1"
       go_simp
       trace "B2"
       have e28 := (own_keptNo (own_keptNo (own_typ (own_keptNo ow28 k45) ow45b (by decide) k48b) k53) k51)
       have e51 := ow51
       have e48 := (own_keptNo (own_keptNo ow48 k53) k51)
       have e53 := (b53.kept k51 (fun f => f))
       trace "L0"
       obtain ⟨w54, hst, b54, k54⟩ := store_agg (P := Tryz.prog) (S := 27) (c := Pk.cells { p with filters := [] } ⟨a28, c28, none, 0, a48, c48, a51, c51⟩) w51 e53 (by kernel_rfl) rfl (pk_one _ _)
       trace "L1"
       refine wpAnyH_ready (rs := [54]) (by kernel_rfl) (by simp) ?_
       refine AllReadyH.cons rfl (fun K9 hK9 => ?_) AllReadyH.nil
       refine (if_pos (show Region.wanted _ _ = true from rfl)).mpr ?_
       refine op_storeN 27 (.tmp 3) (.tmp 57) rfl rfl rfl hst ?_
       trace "L2"
       refine hK9.out _ _ ?_ (fun hHeld2 => ?_)
       ·exact hHeld.then k54 (fun i hi e => by have : i = g53 := e; omega)
       clear hK9 K9
       refine wpAnyH_done (by kernel_rfl) ?_ _
       trace "L3"
       go_wp2
       trace "L4"
       go_meet
       exact ⟨g53, ⟨a28, c28, none, 0, a48, c48, a51, c51⟩, rfl, z53, ⟨b54, ⟨rfl, rfl⟩, own_blk e28 e53 (by decide) k54, own_blk e51 e53 (by decide) k54, own_blk e48 e53 (by decide) k54⟩, hHeld2⟩
    ·go_simp
     have b53 := Blk.new w45 27 #[.int .i64 0, .bool false, .bool false, .int .u8 0, .int .u16 0, .bool false, .int .u16 0, .string ⟨#[]⟩, .bool false, .bool false, .bool false, .int .u8 0, .bool false, .slice none 0 0, .string ⟨#[]⟩, .string ⟨#[]⟩, .string ⟨#[]⟩, .string ⟨#[]⟩, .bool false, .int .u8 0, .string ⟨#[]⟩, .string ⟨#[]⟩, .slice none 0 0, .slice none 0 0, .slice none 0 0]
     have k53 : Kept No w45 (w45.alloc (.cells #[.int .i64 0, .bool false, .bool false, .int .u8 0, .int .u16 0, .bool false, .int .u16 0, .string ⟨#[]⟩, .bool false, .bool false, .bool false, .int .u8 0, .bool false, .slice none 0 0, .string ⟨#[]⟩, .string ⟨#[]⟩, .string ⟨#[]⟩, .string ⟨#[]⟩, .bool false, .int .u8 0, .string ⟨#[]⟩, .string ⟨#[]⟩, .slice none 0 0, .slice none 0 0, .slice none 0 0] 27)) := (Kept.refl No _).alloc _
     have z53 := hHeld.size
     obtain ⟨g53, hg53⟩ : ∃ g, g = w45.heap.size := ⟨_, rfl⟩
     rw [← hg53] at b53 z53
     rw [← hg53]
     clear hg53
     generalize w45.alloc (.cells #[.int .i64 0, .bool false, .bool false, .int .u8 0, .int .u16 0, .bool false, .int .u16 0, .string ⟨#[]⟩, .bool false, .bool false, .bool false, .int .u8 0, .bool false, .slice none 0 0, .string ⟨#[]⟩, .string ⟨#[]⟩, .string ⟨#[]⟩, .string ⟨#[]⟩, .bool false, .int .u8 0, .string ⟨#[]⟩, .string ⟨#[]⟩, .slice none 0 0, .slice none 0 0, .slice none 0 0] 27) = w53 at *
     refine hK9.out _ _ ?_ (fun hHeld2 => ?_)
     ·exact hHeld.trans k53
     clear hK9 K9 hHeld
     have hHeld := hHeld2
     clear hHeld2
     refine wpAnyH_ready (rs := [48]) (by kernel_rfl) (by simp) ?_
     refine AllReadyH.cons rfl (fun K9 hK9 => ?_) AllReadyH.nil
     ·have ow45b := (own_keptNo ow45 k53)
      obtain ⟨v48, w48, hrun48, ow48, hg48, hv48⟩ := append_bytes w53 wB.heap.size g45 s.ca s.cc p.codes ow45b (hp.kept (hkB.trans hHeld)).hc hcn (by have := hpf.hc; omega) hHeld.size
      have k48 : Kept No wB w48 := hHeld.grown hg48 (fun k e => .inl (by have := ow45b.lt k e; exact this.1))
      have k48b : Kept (One g45) w53 w48 := (Kept.refl _ _).grown hg48 (fun k e => .inr (by simp [Value.ownBlock] at e; exact e.symm))
      obtain ⟨a48, c48, rfl, _, _⟩ := own_form ow48
      refine (if_pos (show Region.wanted _ _ = true from rfl)).mpr ?_
      refine op_appendN (.tmp 50) (.tmp 52) 25 rfl rfl rfl hrun48 ?_
      refine hK9.out _ _ ?_ (fun hHeld2 => ?_)
      ·exact k48
      clear hK9 K9 hHeld
      have hHeld := hHeld2
      clear hHeld2
      go_simp
      refine wpAnyH_ready (rs := [51]) (by kernel_rfl) (by simp) ?_
      refine AllReadyH.cons rfl (fun K9 hK9 => ?_) AllReadyH.nil
      ·go_simp
       go_wp2_with (go_at_call 52; refine (fromlist_any s.pa s.pc p.props _ (hp.kept (hkB.trans hHeld)).hp hpf.hp).mono ?_; rintro e w51 ⟨a51, c51, rfl, ow51, k51⟩)
       have ow51 := own_mono ow51 hHeld.size
       refine hK9.out _ _ ?_ (fun hHeld2 => ?_)
       ·exact hHeld.trans k51
       clear hK9 K9 hHeld
       have hHeld := hHeld2
       clear hHeld2
       go_simp
       refine wtk (i := 52) (v := .agg (Pk.cells { p with filters := [] } ⟨a28, c28, none, 0, a48, c48, a51, c51⟩)) rfl (Or.inl ⟨by rfl, ?hhu28_45_53_48⟩) (by assumption) ?rru28_45_53_48
       case hhu28_45_53_48 => (intro wz9 hSw; trace "B0"; refine run_value (run_build wz9 _ _ _ ?_); kernel_rfl)
       trace "B1"
       go_simp
       trace "B2"
       have e28 := (own_keptNo (own_typ (own_keptNo (own_keptNo ow28 k45) k53) ow45b (by decide) k48b) k51)
       have e51 := ow51
       have e48 := (own_keptNo ow48 k51)
       have e53 := ((b53.kept k48b (blk_typ b53 ow45b (by decide))).kept k51 (fun f => f))
       trace "L0"
       obtain ⟨w54, hst, b54, k54⟩ := store_agg (P := Tryz.prog) (S := 27) (c := Pk.cells { p with filters := [] } ⟨a28, c28, none, 0, a48, c48, a51, c51⟩) w51 e53 (by kernel_rfl) rfl (pk_one _ _)
       trace "L1"
       refine wpAnyH_ready (rs := [54]) (by kernel_rfl) (by simp) ?_
       refine AllReadyH.cons rfl (fun K9 hK9 => ?_) AllReadyH.nil
       refine (if_pos (show Region.wanted _ _ = true from rfl)).mpr ?_
       refine op_storeN 27 (.tmp 3) (.tmp 57) rfl rfl rfl hst ?_
       trace "L2"
       refine hK9.out _ _ ?_ (fun hHeld2 => ?_)
       ·exact hHeld.then k54 (fun i hi e => by have : i = g53 := e; omega)
       clear hK9 K9
       refine wpAnyH_done (by kernel_rfl) ?_ _
       trace "L3"
       go_wp2
       trace "L4"
       go_meet
       exact ⟨g53, ⟨a28, c28, none, 0, a48, c48, a51, c51⟩, rfl, z53, ⟨b54, ⟨rfl, rfl⟩, own_blk e28 e53 (by decide) k54, own_blk e51 e53 (by decide) k54, own_blk e48 e53 (by decide) k54⟩, hHeld2⟩
   ·go_simp
    have b53 := Blk.new w28 27 #[.int .i64 0, .bool false, .bool false, .int .u8 0, .int .u16 0, .bool false, .int .u16 0, .string ⟨#[]⟩, .bool false, .bool false, .bool false, .int .u8 0, .bool false, .slice none 0 0, .string ⟨#[]⟩, .string ⟨#[]⟩, .string ⟨#[]⟩, .string ⟨#[]⟩, .bool false, .int .u8 0, .string ⟨#[]⟩, .string ⟨#[]⟩, .slice none 0 0, .slice none 0 0, .slice none 0 0]
    have k53 : Kept No w28 (w28.alloc (.cells #[.int .i64 0, .bool false, .bool false, .int .u8 0, .int .u16 0, .bool false, .int .u16 0, .string ⟨#[]⟩, .bool false, .bool false, .bool false, .int .u8 0, .bool false, .slice none 0 0, .string ⟨#[]⟩, .string ⟨#[]⟩, .string ⟨#[]⟩, .string ⟨#[]⟩, .bool false, .int .u8 0, .string ⟨#[]⟩, .string ⟨#[]⟩, .slice none 0 0, .slice none 0 0, .slice none 0 0] 27)) := (Kept.refl No _).alloc _
    have z53 := hHeld.size
    obtain ⟨g53, hg53⟩ : ∃ g, g = w28.heap.size := ⟨_, rfl⟩
    rw [← hg53] at b53 z53
    rw [← hg53]
    clear hg53
    generalize w28.alloc (.cells #[.int .i64 0, .bool false, .bool false, .int .u8 0, .int .u16 0, .bool false, .int .u16 0, .string ⟨#[]⟩, .bool false, .bool false, .bool false, .int .u8 0, .bool false, .slice none 0 0, .string ⟨#[]⟩, .string ⟨#[]⟩, .string ⟨#[]⟩, .string ⟨#[]⟩, .bool false, .int .u8 0, .string ⟨#[]⟩, .string ⟨#[]⟩, .slice none 0 0, .slice none 0 0, .slice none 0 0] 27) = w53 at *
    refine hK9.out _ _ ?_ (fun hHeld2 => ?_)
    ·exact hHeld.trans k53
    clear hK9 K9 hHeld
    have hHeld := hHeld2
    clear hHeld2
    refine wpAnyH_ready (rs := [45]) (by kernel_rfl) (by simp) ?_
    refine AllReadyH.cons rfl (fun K9 hK9 => ?_) AllReadyH.nil
    ·go_simp
     have ow45 := own_empty w53 wB.heap.size 5 hHeld.size
     have k45 : Kept No w53 (w53.alloc (.cells #[] 5)) := (Kept.refl No _).alloc _
     obtain ⟨g45, hg45⟩ : ∃ g, g = w53.heap.size := ⟨_, rfl⟩
     rw [← hg45] at ow45
     rw [← hg45]
     clear hg45
     generalize w53.alloc (.cells #[] 5) = w45 at *
     refine hK9.out _ _ ?_ (fun hHeld2 => ?_)
     ·exact hHeld.trans k45
     clear hK9 K9 hHeld
     have hHeld := hHeld2
     clear hHeld2
     refine wpAnyH_ready (rs := [48]) (by kernel_rfl) (by simp) ?_
     refine AllReadyH.cons rfl (fun K9 hK9 => ?_) AllReadyH.nil
     ·have ow45b := ow45
      obtain ⟨v48, w48, hrun48, ow48, hg48, hv48⟩ := append_bytes w45 wB.heap.size g45 s.ca s.cc p.codes ow45b (hp.kept (hkB.trans hHeld)).hc hcn (by have := hpf.hc; omega) hHeld.size
      have k48 : Kept No wB w48 := hHeld.grown hg48 (fun k e => .inl (by have := ow45b.lt k e; exact this.1))
      have k48b : Kept (One g45) w45 w48 := (Kept.refl _ _).grown hg48 (fun k e => .inr (by simp [Value.ownBlock] at e; exact e.symm))
      obtain ⟨a48, c48, rfl, _, _⟩ := own_form ow48
      refine (if_pos (show Region.wanted _ _ = true from rfl)).mpr ?_
      refine op_appendN (.tmp 50) (.tmp 52) 25 rfl rfl rfl hrun48 ?_
      refine hK9.out _ _ ?_ (fun hHeld2 => ?_)
      ·exact k48
      clear hK9 K9 hHeld
      have hHeld := hHeld2
      clear hHeld2
      go_simp
      refine wpAnyH_ready (rs := [51]) (by kernel_rfl) (by simp) ?_
      refine AllReadyH.cons rfl (fun K9 hK9 => ?_) AllReadyH.nil
      ·go_simp
       go_wp2_with (go_at_call 52; refine (fromlist_any s.pa s.pc p.props _ (hp.kept (hkB.trans hHeld)).hp hpf.hp).mono ?_; rintro e w51 ⟨a51, c51, rfl, ow51, k51⟩)
       have ow51 := own_mono ow51 hHeld.size
       refine hK9.out _ _ ?_ (fun hHeld2 => ?_)
       ·exact hHeld.trans k51
       clear hK9 K9 hHeld
       have hHeld := hHeld2
       clear hHeld2
       go_simp
       refine wtk (i := 52) (v := .agg (Pk.cells { p with filters := [] } ⟨a28, c28, none, 0, a48, c48, a51, c51⟩)) rfl (Or.inl ⟨by rfl, ?hhu28_53_45_48⟩) (by assumption) ?rru28_53_45_48
       case hhu28_53_45_48 => (intro wz9 hSw; trace "B0"; refine run_value (run_build wz9 _ _ _ ?_); kernel_rfl)
       trace "B1"
       go_simp
       trace "B2"
       have e28 := (own_keptNo (own_typ (own_keptNo (own_keptNo ow28 k53) k45) ow45b (by decide) k48b) k51)
       have e51 := ow51
       have e48 := (own_keptNo ow48 k51)
       have e53 := (((b53.kept k45 (fun f => f)).kept k48b (blk_typ (b53.kept k45 (fun f => f)) ow45b (by decide))).kept k51 (fun f => f))
       trace "L0"
       obtain ⟨w54, hst, b54, k54⟩ := store_agg (P := Tryz.prog) (S := 27) (c := Pk.cells { p with filters := [] } ⟨a28, c28, none, 0, a48, c48, a51, c51⟩) w51 e53 (by kernel_rfl) rfl (pk_one _ _)
       trace "L1"
       refine wpAnyH_ready (rs := [54]) (by kernel_rfl) (by simp) ?_
       refine AllReadyH.cons rfl (fun K9 hK9 => ?_) AllReadyH.nil
       refine (if_pos (show Region.wanted _ _ = true from rfl)).mpr ?_
       refine op_storeN 27 (.tmp 3) (.tmp 57) rfl rfl rfl hst ?_
       trace "L2"
       refine hK9.out _ _ ?_ (fun hHeld2 => ?_)
       ·exact hHeld.then k54 (fun i hi e => by have : i = g53 := e; omega)
       clear hK9 K9
       refine wpAnyH_done (by kernel_rfl) ?_ _
       trace "L3"
       go_wp2
       trace "L4"
       go_meet
       exact ⟨g53, ⟨a28, c28, none, 0, a48, c48, a51, c51⟩, rfl, z53, ⟨b54, ⟨rfl, rfl⟩, own_blk e28 e53 (by decide) k54, own_blk e51 e53 (by decide) k54, own_blk e48 e53 (by decide) k54⟩, hHeld2⟩
  ·go_simp
   have ow45 := own_empty W0 wB.heap.size 5 hHeld.size
   have k45 : Kept No W0 (W0.alloc (.cells #[] 5)) := (Kept.refl No _).alloc _
   obtain ⟨g45, hg45⟩ : ∃ g, g = W0.heap.size := ⟨_, rfl⟩
   rw [← hg45] at ow45
   rw [← hg45]
   clear hg45
   generalize W0.alloc (.cells #[] 5) = w45 at *
   refine hK9.out _ _ ?_ (fun hHeld2 => ?_)
   ·exact hHeld.trans k45
   clear hK9 K9 hHeld
   have hHeld := hHeld2
   clear hHeld2
   refine wpAnyH_ready (rs := [28, 53]) (by kernel_rfl) (by simp) ?_
   refine AllReadyH.cons rfl (fun K9 hK9 => ?_) (AllReadyH.cons rfl (fun K9 hK9 => ?_) AllReadyH.nil)
   ·go_simp
    go_wp2_with (go_at_call 52; refine (fromlist_any s.wa s.wc p.willProps _ (hp.kept (hkB.trans hHeld)).hw hpf.hw).mono ?_; rintro e w28 ⟨a28, c28, rfl, ow28, k28⟩)
    have ow28 := own_mono ow28 hHeld.size
    refine hK9.out _ _ ?_ (fun hHeld2 => ?_)
    ·exact hHeld.trans k28
    clear hK9 K9 hHeld
    have hHeld := hHeld2
    clear hHeld2
    refine wpAnyH_ready (rs := [48, 53]) (by kernel_rfl) (by simp) ?_
    refine AllReadyH.cons rfl (fun K9 hK9 => ?_) (AllReadyH.cons rfl (fun K9 hK9 => ?_) AllReadyH.nil)
    ·have ow45b := (own_keptNo ow45 k28)
     obtain ⟨v48, w48, hrun48, ow48, hg48, hv48⟩ := append_bytes w28 wB.heap.size g45 s.ca s.cc p.codes ow45b (hp.kept (hkB.trans hHeld)).hc hcn (by have := hpf.hc; omega) hHeld.size
     have k48 : Kept No wB w48 := hHeld.grown hg48 (fun k e => .inl (by have := ow45b.lt k e; exact this.1))
     have k48b : Kept (One g45) w28 w48 := (Kept.refl _ _).grown hg48 (fun k e => .inr (by simp [Value.ownBlock] at e; exact e.symm))
     obtain ⟨a48, c48, rfl, _, _⟩ := own_form ow48
     refine (if_pos (show Region.wanted _ _ = true from rfl)).mpr ?_
     refine op_appendN (.tmp 50) (.tmp 52) 25 rfl rfl rfl hrun48 ?_
     refine hK9.out _ _ ?_ (fun hHeld2 => ?_)
     ·exact k48
     clear hK9 K9 hHeld
     have hHeld := hHeld2
     clear hHeld2
     go_simp
     refine wpAnyH_ready (rs := [51, 53]) (by kernel_rfl) (by simp) ?_
     refine AllReadyH.cons rfl (fun K9 hK9 => ?_) (AllReadyH.cons rfl (fun K9 hK9 => ?_) AllReadyH.nil)
     ·go_simp
      go_wp2_with (go_at_call 52; refine (fromlist_any s.pa s.pc p.props _ (hp.kept (hkB.trans hHeld)).hp hpf.hp).mono ?_; rintro e w51 ⟨a51, c51, rfl, ow51, k51⟩)
      have ow51 := own_mono ow51 hHeld.size
      refine hK9.out _ _ ?_ (fun hHeld2 => ?_)
      ·exact hHeld.trans k51
      clear hK9 K9 hHeld
      have hHeld := hHeld2
      clear hHeld2
      go_simp
      refine wtk (i := 52) (v := .agg (Pk.cells { p with filters := [] } ⟨a28, c28, none, 0, a48, c48, a51, c51⟩)) rfl (Or.inl ⟨by rfl, ?hhu45_28_48⟩) (by assumption) ?rru45_28_48
      case hhu45_28_48 => (intro wz9 hSw; trace "B0"; refine run_value (run_build wz9 _ _ _ ?_); kernel_rfl)
      trace "B1"
      go_simp
      trace "B2"
      refine wpAnyH_ready (rs := [53]) (by kernel_rfl) (by simp) ?_
      refine AllReadyH.cons rfl (fun K9 hK9 => ?_) AllReadyH.nil
      ·go_simp
       have b53 := Blk.new w51 27 #[.int .i64 0, .bool false, .bool false, .int .u8 0, .int .u16 0, .bool false, .int .u16 0, .string ⟨#[]⟩, .bool false, .bool false, .bool false, .int .u8 0, .bool false, .slice none 0 0, .string ⟨#[]⟩, .string ⟨#[]⟩, .string ⟨#[]⟩, .string ⟨#[]⟩, .bool false, .int .u8 0, .string ⟨#[]⟩, .string ⟨#[]⟩, .slice none 0 0, .slice none 0 0, .slice none 0 0]
       have k53 : Kept No w51 (w51.alloc (.cells #[.int .i64 0, .bool false, .bool false, .int .u8 0, .int .u16 0, .bool false, .int .u16 0, .string ⟨#[]⟩, .bool false, .bool false, .bool false, .int .u8 0, .bool false, .slice none 0 0, .string ⟨#[]⟩, .string ⟨#[]⟩, .string ⟨#[]⟩, .string ⟨#[]⟩, .bool false, .int .u8 0, .string ⟨#[]⟩, .string ⟨#[]⟩, .slice none 0 0, .slice none 0 0, .slice none 0 0] 27)) := (Kept.refl No _).alloc _
       have z53 := hHeld.size
       obtain ⟨g53, hg53⟩ : ∃ g, g = w51.heap.size := ⟨_, rfl⟩
       rw [← hg53] at b53 z53
       rw [← hg53]
       clear hg53
       generalize w51.alloc (.cells #[.int .i64 0, .bool false, .bool false, .int .u8 0, .int .u16 0, .bool false, .int .u16 0, .string ⟨#[]⟩, .bool false, .bool false, .bool false, .int .u8 0, .bool false, .slice none 0 0, .string ⟨#[]⟩, .string ⟨#[]⟩, .string ⟨#[]⟩, .string ⟨#[]⟩, .bool false, .int .u8 0, .string ⟨#[]⟩, .string ⟨#[]⟩, .slice none 0 0, .slice none 0 0, .slice none 0 0] 27) = w53 at *
       refine hK9.out _ _ ?_ (fun hHeld2 => ?_)
       ·exact hHeld.trans k53
       clear hK9 K9 hHeld
       have hHeld := hHeld2
       clear hHeld2
       have e28 := (own_keptNo (own_keptNo (own_typ ow28 ow45b (by decide) k48b) k51) k53)
       have e51 := (own_keptNo ow51 k53)
       have e48 := (own_keptNo (own_keptNo ow48 k51) k53)
       have e53 := b53
       trace "L0"
       obtain ⟨w54, hst, b54, k54⟩ := store_agg (P := Tryz.prog) (S := 27) (c := Pk.cells { p with filters := [] } ⟨a28, c28, none, 0, a48, c48, a51, c51⟩) w53 e53 (by kernel_rfl) rfl (pk_one _ _)
       trace "L1"
       refine wpAnyH_ready (rs := [54]) (by kernel_rfl) (by simp) ?_
       refine AllReadyH.cons rfl (fun K9 hK9 => ?_) AllReadyH.nil
       refine (if_pos (show Region.wanted _ _ = true from rfl)).mpr ?_
       refine op_storeN 27 (.tmp 3) (.tmp 57) rfl rfl rfl hst ?_
       trace "L2"
       refine hK9.out _ _ ?_ (fun hHeld2 => ?_)
       ·exact hHeld.then k54 (fun i hi e => by have : i = g53 := e; omega)
       clear hK9 K9
       refine wpAnyH_done (by kernel_rfl) ?_ _
       trace "L3"
       go_wp2
       trace "L4"
       go_meet
       exact ⟨g53, ⟨a28, c28, none, 0, a48, c48, a51, c51⟩, rfl, z53, ⟨b54, ⟨rfl, rfl⟩, own_blk e28 e53 (by decide) k54, own_blk e51 e53 (by decide) k54, own_blk e48 e53 (by decide) k54⟩, hHeld2⟩
     ·go_simp
      have b53 := Blk.new w48 27 #[.int .i64 0, .bool false, .bool false, .int .u8 0, .int .u16 0, .bool false, .int .u16 0, .string ⟨#[]⟩, .bool false, .bool false, .bool false, .int .u8 0, .bool false, .slice none 0 0, .string ⟨#[]⟩, .string ⟨#[]⟩, .string ⟨#[]⟩, .string ⟨#[]⟩, .bool false, .int .u8 0, .string ⟨#[]⟩, .string ⟨#[]⟩, .slice none 0 0, .slice none 0 0, .slice none 0 0]
      have k53 : Kept No w48 (w48.alloc (.cells #[.int .i64 0, .bool false, .bool false, .int .u8 0, .int .u16 0, .bool false, .int .u16 0, .string ⟨#[]⟩, .bool false, .bool false, .bool false, .int .u8 0, .bool false, .slice none 0 0, .string ⟨#[]⟩, .string ⟨#[]⟩, .string ⟨#[]⟩, .string ⟨#[]⟩, .bool false, .int .u8 0, .string ⟨#[]⟩, .string ⟨#[]⟩, .slice none 0 0, .slice none 0 0, .slice none 0 0] 27)) := (Kept.refl No _).alloc _
      have z53 := hHeld.size
      obtain ⟨g53, hg53⟩ : ∃ g, g = w48.heap.size := ⟨_, rfl⟩
      rw [← hg53] at b53 z53
      rw [← hg53]
      clear hg53
      generalize w48.alloc (.cells #[.int .i64 0, .bool false, .bool false, .int .u8 0, .int .u16 0, .bool false, .int .u16 0, .string ⟨#[]⟩, .bool false, .bool false, .bool false, .int .u8 0, .bool false, .slice none 0 0, .string ⟨#[]⟩, .string ⟨#[]⟩, .string ⟨#[]⟩, .string ⟨#[]⟩, .bool false, .int .u8 0, .string ⟨#[]⟩, .string ⟨#[]⟩, .slice none 0 0, .slice none 0 0, .slice none 0 0] 27) = w53 at *
      refine hK9.out _ _ ?_ (fun hHeld2 => ?_)
      ·exact hHeld.trans k53
      clear hK9 K9 hHeld
      have hHeld := hHeld2
      clear hHeld2
      refine wpAnyH_ready (rs := [51]) (by kernel_rfl) (by simp) ?_
      refine AllReadyH.cons rfl (fun K9 hK9 => ?_) AllReadyH.nil
      ·go_simp
       go_wp2_with (go_at_call 52; refine (fromlist_any s.pa s.pc p.props _ (hp.kept (hkB.trans hHeld)).hp hpf.hp).mono ?_; rintro e w51 ⟨a51, c51, rfl, ow51, k51⟩)
       have ow51 := own_mono ow51 hHeld.size
       refine hK9.out _ _ ?_ (fun hHeld2 => ?_)
       ·exact hHeld.trans k51
       clear hK9 K9 hHeld
       have hHeld := hHeld2
       clear hHeld2
       go_simp
       refine wtk (i := 52) (v := .agg (Pk.cells { p with filters := [] } ⟨a28, c28, none, 0, a48, c48, a51, c51⟩)) rfl (Or.inl ⟨by rfl, ?hhu45_28_48_53⟩) (by assumption) ?rru45_28_48_53
       case hhu45_28_48_53 => (intro wz9 hSw; trace "B0"; refine run_value (run_build wz9 _ _ _ ?_); kernel_rfl)
       trace "B1"
       go_simp
       trace "B2"
       have e28 := (own_keptNo (own_keptNo (own_typ ow28 ow45b (by decide) k48b) k53) k51)
       have e51 := ow51
       have e48 := (own_keptNo (own_keptNo ow48 k53) k51)
       have e53 := (b53.kept k51 (fun f => f))
       trace "L0"
       obtain ⟨w54, hst, b54, k54⟩ := store_agg (P := Tryz.prog) (S := 27) (c := Pk.cells { p with filters := [] } ⟨a28, c28, none, 0, a48, c48, a51, c51⟩) w51 e53 (by kernel_rfl) rfl (pk_one _ _)
       trace "L1"
       refine wpAnyH_ready (rs := [54]) (by kernel_rfl) (by simp) ?_
       refine AllReadyH.cons rfl (fun K9 hK9 => ?_) AllReadyH.nil
       refine (if_pos (show Region.wanted _ _ = true from rfl)).mpr ?_
       refine op_storeN 27 (.tmp 3) (.tmp 57) rfl rfl rfl hst ?_
       trace "L2"
       refine hK9.out _ _ ?_ (fun hHeld2 => ?_)
       ·exact hHeld.then k54 (fun i hi e => by have : i = g53 := e; omega)
       clear hK9 K9
       refine wpAnyH_done (by kernel_rfl) ?_ _
       trace "L3"
       go_wp2
       trace "L4"
       go_meet
       exact ⟨g53, ⟨a28, c28, none, 0, a48, c48, a51, c51⟩, rfl, z53, ⟨b54, ⟨rfl, rfl⟩, own_blk e28 e53 (by decide) k54, own_blk e51 e53 (by decide) k54, own_blk e48 e53 (by decide) k54⟩, hHeld2⟩
    ·go_simp
     have b53 := Blk.new w28 27 #[.int .i64 0, .bool false, .bool false, .int .u8 0, .int .u16 0, .bool false, .int .u16 0, .string ⟨#[]⟩, .bool false, .bool false, .bool false, .int .u8 0, .bool false, .slice none 0 0, .string ⟨#[]⟩, .string ⟨#[]⟩, .string ⟨#[]⟩, .string ⟨#[]⟩, .bool false, .int .u8 0, .string ⟨#[]⟩, .string ⟨#[]⟩, .slice none 0 0, .slice none 0 0, .slice none 0 0]
     have k53 : Kept No w28 (w28.alloc (.cells #[.int .i64 0, .bool false, .bool false, .int .u8 0, .int .u16 0, .bool false, .int .u16 0, .string ⟨#[]⟩, .bool false, .bool false, .bool false, .int .u8 0, .bool false, .slice none 0 0, .string ⟨#[]⟩, .string ⟨#[]⟩, .string ⟨#[]⟩, .string ⟨#[]⟩, .bool false, .int .u8 0, .string ⟨#[]⟩, .string ⟨#[]⟩, .slice none 0 0, .slice none 0 0, .slice none 0 0] 27)) := (Kept.refl No _).alloc _
     have z53 := hHeld.size
     obtain ⟨g53, hg53⟩ : ∃ g, g = w28.heap.size := ⟨_, rfl⟩
     rw [← hg53] at b53 z53
     rw [← hg53]
     clear hg53
     generalize w28.alloc (.cells #[.int .i64 0, .bool false, .bool false, .int .u8 0, .int .u16 0, .bool false, .int .u16 0, .string ⟨#[]⟩, .bool false, .bool false, .bool false, .int .u8 0, .bool false, .slice none 0 0, .string ⟨#[]⟩, .string ⟨#[]⟩, .string ⟨#[]⟩, .string ⟨#[]⟩, .bool false, .int .u8 0, .string ⟨#[]⟩, .string ⟨#[]⟩, .slice none 0 0, .slice none 0 0, .slice none 0 0] 27) = w53 at *
     refine hK9.out _ _ ?_ (fun hHeld2 => ?_)
     ·exact hHeld.trans k53
     clear hK9 K9 hHeld
     have hHeld := hHeld2
     clear hHeld2
     refine wpAnyH_ready (rs := [48]) (by kernel_rfl) (by simp) ?_
     refine AllReadyH.cons rfl (fun K9 hK9 => ?_) AllReadyH.nil
     ·have ow45b := (own_keptNo (own_keptNo ow45 k28) k53)
      obtain ⟨v48, w48, hrun48, ow48, hg48, hv48⟩ := append_bytes w53 wB.heap.size g45 s.ca s.cc p.codes ow45b (hp.kept (hkB.trans hHeld)).hc hcn (by have := hpf.hc; omega) hHeld.size
      have k48 : Kept No wB w48 := hHeld.grown hg48 (fun k e => .inl (by have := ow45b.lt k e; exact this.1))
      have k48b : Kept (One g45) w53 w48 := (Kept.refl _ _).grown hg48 (fun k e => .inr (by simp [Value.ownBlock] at e; exact e.symm))
      obtain ⟨a48, c48, rfl, _, _⟩ := own_form ow48
      refine (if_pos (show Region.wanted _ _ = true from rfl)).mpr ?_
      refine op_appendN (.tmp 50) (.tmp 52) 25 rfl rfl rfl hrun48 ?_
      refine hK9.out _ _ ?_ (fun hHeld2 => ?_)
      ·exact k48
      clear hK9 K9 hHeld
      have hHeld := hHeld2
      clear hHeld2
      go_simp
      refine wpAnyH_ready (rs := [51]) (by kernel_rfl) (by simp) ?_
      refine AllReadyH.cons rfl (fun K9 hK9 => ?_) AllReadyH.nil
      ·go_simp
       go_wp2_with (go_at_call 52; refine (fromlist_any s.pa s.pc p.props _ (hp.kept (hkB.trans hHeld)).hp hpf.hp).mono ?_; rintro e w51 ⟨a51, c51, rfl, ow51, k51⟩)
       have ow51 := own_mono ow51 hHeld.size
       refine hK9.out _ _ ?_ (fun hHeld2 => ?_)
       ·exact hHeld.trans k51
       clear hK9 K9 hHeld
       have hHeld := hHeld2
       clear hHeld2
       go_simp
       refine wtk (i := 52) (v := .agg (Pk.cells { p with filters := [] } ⟨a28, c28, none, 0, a48, c48, a51, c51⟩)) rfl (Or.inl ⟨by rfl, ?hhu45_28_53_48⟩) (by assumption) ?rru45_28_53_48
       case hhu45_28_53_48 => (intro wz9 hSw; trace "B0"; refine run_value (run_build wz9 _ _ _ ?_); kernel_rfl)
       trace "B1"
       go_simp
       trace "B2"
       have e28 := (own_keptNo (own_typ (own_keptNo ow28 k53) ow45b (by decide) k48b) k51)
       have e51 := ow51
       have e48 := (own_keptNo ow48 k51)
       have e53 := ((b53.kept k48b (blk_typ b53 ow45b (by decide))).kept k51 (fun f => f))
       trace "L0"
       obtain ⟨w54, hst, b54, k54⟩ := store_agg (P := Tryz.prog) (S := 27) (c := Pk.cells { p with filters := [] } ⟨a28, c28, none, 0, a48, c48, a51, c51⟩) w51 e53 (by kernel_rfl) rfl (pk_one _ _)
       trace "L1"
       refine wpAnyH_ready (rs := [54]) (by kernel_rfl) (by simp) ?_
       refine AllReadyH.cons rfl (fun K9 hK9 => ?_) AllReadyH.nil
       refine (if_pos (show Region.wanted _ _ = true from rfl)).mpr ?_
       refine op_storeN 27 (.tmp 3) (.tmp 57) rfl rfl rfl hst ?_
       trace "L2"
       refine hK9.out _ _ ?_ (fun hHeld2 => ?_)
       ·exact hHeld.then k54 (fun i hi e => by have : i = g53 := e; omega)
       clear hK9 K9
       refine wpAnyH_done (by kernel_rfl) ?_ _
       trace "L3"
       go_wp2
       trace "L4"
       go_meet
       exact ⟨g53, ⟨a28, c28, none, 0, a48, c48, a51, c51⟩, rfl, z53, ⟨b54, ⟨rfl, rfl⟩, own_blk e28 e53 (by decide) k54, own_blk e51 e53 (by decide) k54, own_blk e48 e53 (by decide) k54⟩, hHeld2⟩
   ·go_simp
    have b53 := Blk.new w45 27 #[.int .i64 0, .bool false, .bool false, .int .u8 0, .int .u16 0, .bool false, .int .u16 0, .string ⟨#[]⟩, .bool false, .bool false, .bool false, .int .u8 0, .bool false, .slice none 0 0, .string ⟨#[]⟩, .string ⟨#[]⟩, .string ⟨#[]⟩, .string ⟨#[]⟩, .bool false, .int .u8 0, .string ⟨#[]⟩, .string ⟨#[]⟩, .slice none 0 0, .slice none 0 0, .slice none 0 0]
    have k53 : Kept No w45 (w45.alloc (.cells #[.int .i64 0, .bool false, .bool false, .int .u8 0, .int .u16 0, .bool false, .int .u16 0, .string ⟨#[]⟩, .bool false, .bool false, .bool false, .int .u8 0, .bool false, .slice none 0 0, .string ⟨#[]⟩, .string ⟨#[]⟩, .string ⟨#[]⟩, .string ⟨#[]⟩, .bool false, .int .u8 0, .string ⟨#[]⟩, .string ⟨#[]⟩, .slice none 0 0, .slice none 0 0, .slice none 0 0] 27)) := (Kept.refl No _).alloc _
    have z53 := hHeld.size
    obtain ⟨g53, hg53⟩ : ∃ g, g = w45.heap.size := ⟨_, rfl⟩
    rw [← hg53] at b53 z53
    rw [← hg53]
    clear hg53
    generalize w45.alloc (.cells #[.int .i64 0, .bool false, .bool false, .int .u8 0, .int .u16 0, .bool false, .int .u16 0, .string ⟨#[]⟩, .bool false, .bool false, .bool false, .int .u8 0, .bool false, .slice none 0 0, .string ⟨#[]⟩, .string ⟨#[]⟩, .string ⟨#[]⟩, .string ⟨#[]⟩, .bool false, .int .u8 0, .string ⟨#[]⟩, .string ⟨#[]⟩, .slice none 0 0, .slice none 0 0, .slice none 0 0] 27) = w53 at *
    refine hK9.out _ _ ?_ (fun hHeld2 => ?_)
    ·exact hHeld.trans k53
    clear hK9 K9 hHeld
    have hHeld := hHeld2
    clear hHeld2
    refine wpAnyH_ready (rs := [28]) (by kernel_rfl) (by simp) ?_
    refine AllReadyH.cons rfl (fun K9 hK9 => ?_) AllReadyH.nil
    ·go_simp
     go_wp2_with (go_at_call 52; refine (fromlist_any s.wa s.wc p.willProps _ (hp.kept (hkB.trans hHeld)).hw hpf.hw).mono ?_; rintro e w28 ⟨a28, c28, rfl, ow28, k28⟩)
     have ow28 := own_mono ow28 hHeld.size
     refine hK9.out _ _ ?_ (fun hHeld2 => ?_)
     ·exact hHeld.trans k28
     clear hK9 K9 hHeld
     have hHeld := hHeld2
     clear hHeld2
     refine wpAnyH_ready (rs := [48]) (by kernel_rfl) (by simp) ?_
     refine AllReadyH.cons rfl (fun K9 hK9 => ?_) AllReadyH.nil
     ·have ow45b := (own_keptNo (own_keptNo ow45 k53) k28)
      obtain ⟨v48, w48, hrun48, ow48, hg48, hv48⟩ := append_bytes w28 wB.heap.size g45 s.ca s.cc p.codes ow45b (hp.kept (hkB.trans hHeld)).hc hcn (by have := hpf.hc; omega) hHeld.size
      have k48 : Kept No wB w48 := hHeld.grown hg48 (fun k e => .inl (by have := ow45b.lt k e; exact this.1))
      have k48b : Kept (One g45) w28 w48 := (Kept.refl _ _).grown hg48 (fun k e => .inr (by simp [Value.ownBlock] at e; exact e.symm))
      obtain ⟨a48, c48, rfl, _, _⟩ := own_form ow48
      refine (if_pos (show Region.wanted _ _ = true from rfl)).mpr ?_
      refine op_appendN (.tmp 50) (.tmp 52) 25 rfl rfl rfl hrun48 ?_
      refine hK9.out _ _ ?_ (fun hHeld2 => ?_)
      ·exact k48
      clear hK9 K9 hHeld
      have hHeld := hHeld2
      clear hHeld2
      go_simp
      refine wpAnyH_ready (rs := [51]) (by kernel_rfl) (by simp) ?_
      refine AllReadyH.cons rfl (fun K9 hK9 => ?_) AllReadyH.nil
      ·go_simp
       go_wp2_with (go_at_call 52; refine (fromlist_any s.pa s.pc p.props _ (hp.kept (hkB.trans hHeld)).hp hpf.hp).mono ?_; rintro e w51 ⟨a51, c51, rfl, ow51, k51⟩)
       have ow51 := own_mono ow51 hHeld.size
       refine hK9.out _ _ ?_ (fun hHeld2 => ?_)
       ·exact hHeld.trans k51
       clear hK9 K9 hHeld
       have hHeld := hHeld2
       clear hHeld2
       go_simp
       refine wtk (i := 52) (v := .agg (Pk.cells { p with filters := [] } ⟨a28, c28, none, 0, a48, c48, a51, c51⟩)) rfl (Or.inl ⟨by rfl, ?hhu45_53_28_48⟩) (by assumption) ?rru45_53_28_48
       case hhu45_53_28_48 => (intro wz9 hSw; trace "B0"; refine run_value (run_build wz9 _ _ _ ?_); kernel_rfl)
       trace "B1"
       go_simp
       trace "B2"
       have e28 := (own_keptNo (own_typ ow28 ow45b (by decide) k48b) k51)
       have e51 := ow51
       have e48 := (own_keptNo ow48 k51)
       have e53 := (((b53.kept k28 (fun f => f)).kept k48b (blk_typ (b53.kept k28 (fun f => f)) ow45b (by decide))).kept k51 (fun f => f))
       trace "L0"
       obtain ⟨w54, hst, b54, k54⟩ := store_agg (P := Tryz.prog) (S := 27) (c := Pk.cells { p with filters := [] } ⟨a28, c28, none, 0, a48, c48, a51, c51⟩) w51 e53 (by kernel_rfl) rfl (pk_one _ _)
       trace "L1"
       refine wpAnyH_ready (rs := [54]) (by kernel_rfl) (by simp) ?_
       refine AllReadyH.cons rfl (fun K9 hK9 => ?_) AllReadyH.nil
       refine (if_pos (show Region.wanted _ _ = true from rfl)).mpr ?_
       refine op_storeN 27 (.tmp 3) (.tmp 57) rfl rfl rfl hst ?_
       trace "L2"
       refine hK9.out _ _ ?_ (fun hHeld2 => ?_)
       ·exact hHeld.then k54 (fun i hi e => by have : i = g53 := e; omega)
       clear hK9 K9
       refine wpAnyH_done (by kernel_rfl) ?_ _
       trace "L3"
       go_wp2
       trace "L4"
       go_meet
       exact ⟨g53, ⟨a28, c28, none, 0, a48, c48, a51, c51⟩, rfl, z53, ⟨b54, ⟨rfl, rfl⟩, own_blk e28 e53 (by decide) k54, own_blk e51 e53 (by decide) k54, own_blk e48 e53 (by decide) k54⟩, hHeld2⟩
  ·go_simp
   have b53 := Blk.new W0 27 #[.int .i64 0, .bool false, .bool false, .int .u8 0, .int .u16 0, .bool false, .int .u16 0, .string ⟨#[]⟩, .bool false, .bool false, .bool false, .int .u8 0, .bool false, .slice none 0 0, .string ⟨#[]⟩, .string ⟨#[]⟩, .string ⟨#[]⟩, .string ⟨#[]⟩, .bool false, .int .u8 0, .string ⟨#[]⟩, .string ⟨#[]⟩, .slice none 0 0, .slice none 0 0, .slice none 0 0]
   have k53 : Kept No W0 (W0.alloc (.cells #[.int .i64 0, .bool false, .bool false, .int .u8 0, .int .u16 0, .bool false, .int .u16 0, .string ⟨#[]⟩, .bool false, .bool false, .bool false, .int .u8 0, .bool false, .slice none 0 0, .string ⟨#[]⟩, .string ⟨#[]⟩, .string ⟨#[]⟩, .string ⟨#[]⟩, .bool false, .int .u8 0, .string ⟨#[]⟩, .string ⟨#[]⟩, .slice none 0 0, .slice none 0 0, .slice none 0 0] 27)) := (Kept.refl No _).alloc _
   have z53 := hHeld.size
   obtain ⟨g53, hg53⟩ : ∃ g, g = W0.heap.size := ⟨_, rfl⟩
   rw [← hg53] at b53 z53
   rw [← hg53]
   clear hg53
   generalize W0.alloc (.cells #[.int .i64 0, .bool false, .bool false, .int .u8 0, .int .u16 0, .bool false, .int .u16 0, .string ⟨#[]⟩, .bool false, .bool false, .bool false, .int .u8 0, .bool false, .slice none 0 0, .string ⟨#[]⟩, .string ⟨#[]⟩, .string ⟨#[]⟩, .string ⟨#[]⟩, .bool false, .int .u8 0, .string ⟨#[]⟩, .string ⟨#[]⟩, .slice none 0 0, .slice none 0 0, .slice none 0 0] 27) = w53 at *
   refine hK9.out _ _ ?_ (fun hHeld2 => ?_)
   ·exact hHeld.trans k53
   clear hK9 K9 hHeld
   have hHeld := hHeld2
   clear hHeld2
   refine wpAnyH_ready (rs := [28, 45]) (by kernel_rfl) (by simp) ?_
   refine AllReadyH.cons rfl (fun K9 hK9 => ?_) (AllReadyH.cons rfl (fun K9 hK9 => ?_) AllReadyH.nil)
   ·go_simp
    go_wp2_with (go_at_call 52; refine (fromlist_any s.wa s.wc p.willProps _ (hp.kept (hkB.trans hHeld)).hw hpf.hw).mono ?_; rintro e w28 ⟨a28, c28, rfl, ow28, k28⟩)
    have ow28 := own_mono ow28 hHeld.size
    refine hK9.out _ _ ?_ (fun hHeld2 => ?_)
    ·exact hHeld.trans k28
    clear hK9 K9 hHeld
    have hHeld := hHeld2
    clear hHeld2
    refine wpAnyH_ready (rs := [45]) (by kernel_rfl) (by simp) ?_
    refine AllReadyH.cons rfl (fun K9 hK9 => ?_) AllReadyH.nil
    ·go_simp
     have ow45 := own_empty w28 wB.heap.size 5 hHeld.size
     have k45 : Kept No w28 (w28.alloc (.cells #[] 5)) := (Kept.refl No _).alloc _
     obtain ⟨g45, hg45⟩ : ∃ g, g = w28.heap.size := ⟨_, rfl⟩
     rw [← hg45] at ow45
     rw [← hg45]
     clear hg45
     generalize w28.alloc (.cells #[] 5) = w45 at *
     refine hK9.out _ _ ?_ (fun hHeld2 => ?_)
     ·exact hHeld.trans k45
     clear hK9 K9 hHeld
     have hHeld := hHeld2
     clear hHeld2
     refine wpAnyH_ready (rs := [48]) (by kernel_rfl) (by simp) ?_
     refine AllReadyH.cons rfl (fun K9 hK9 => ?_) AllReadyH.nil
     ·have ow45b := ow45
      obtain ⟨v48, w48, hrun48, ow48, hg48, hv48⟩ := append_bytes w45 wB.heap.size g45 s.ca s.cc p.codes ow45b (hp.kept (hkB.trans hHeld)).hc hcn (by have := hpf.hc; omega) hHeld.size
      have k48 : Kept No wB w48 := hHeld.grown hg48 (fun k e => .inl (by have := ow45b.lt k e; exact this.1))
      have k48b : Kept (One g45) w45 w48 := (Kept.refl _ _).grown hg48 (fun k e => .inr (by simp [Value.ownBlock] at e; exact e.symm))
      obtain ⟨a48, c48, rfl, _, _⟩ := own_form ow48
      refine (if_pos (show Region.wanted _ _ = true from rfl)).mpr ?_
      refine op_appendN (.tmp 50) (.tmp 52) 25 rfl rfl rfl hrun48 ?_
      refine hK9.out _ _ ?_ (fun hHeld2 => ?_)
      ·exact k48
      clear hK9 K9 hHeld
      have hHeld := hHeld2
      clear hHeld2
      go_simp
      refine wpAnyH_ready (rs := [51]) (by kernel_rfl) (by simp) ?_
      refine AllReadyH.cons rfl (fun K9 hK9 => ?_) AllReadyH.nil
      ·go_simp
       go_wp2_with (go_at_call 52; refine (fromlist_any s.pa s.pc p.props _ (hp.kept (hkB.trans hHeld)).hp hpf.hp).mono ?_; rintro e w51 ⟨a51, c51, rfl, ow51, k51⟩)
       have ow51 := own_mono ow51 hHeld.size
       refine hK9.out _ _ ?_ (fun hHeld2 => ?_)
       ·exact hHeld.trans k51
       clear hK9 K9 hHeld
       have hHeld := hHeld2
       clear hHeld2
       go_simp
       refine wtk (i := 52) (v := .agg (Pk.cells { p with filters := [] } ⟨a28, c28, none, 0, a48, c48, a51, c51⟩)) rfl (Or.inl ⟨by rfl, ?hhu53_28_45_48⟩) (by assumption) ?rru53_28_45_48
       case hhu53_28_45_48 => (intro wz9 hSw; trace "B0"; refine run_value (run_build wz9 _ _ _ ?_); kernel_rfl)
       trace "B1"
       go_simp
       trace "B2"
       have e28 := (own_keptNo (own_typ (own_keptNo ow28 k45) ow45b (by decide) k48b) k51)
       have e51 := ow51
       have e48 := (own_keptNo ow48 k51)
       have e53 := ((((b53.kept k28 (fun f => f)).kept k45 (fun f => f)).kept k48b (blk_typ ((b53.kept k28 (fun f => f)).kept k45 (fun f => f)) ow45b (by decide))).kept k51 (fun f => f))
       trace "L0"
       obtain ⟨w54, hst, b54, k54⟩ := store_agg (P := Tryz.prog) (S := 27) (c := Pk.cells { p with filters := [] } ⟨a28, c28, none, 0, a48, c48, a51, c51⟩) w51 e53 (by kernel_rfl) rfl (pk_one _ _)
       trace "L1"
       refine wpAnyH_ready (rs := [54]) (by kernel_rfl) (by simp) ?_
       refine AllReadyH.cons rfl (fun K9 hK9 => ?_) AllReadyH.nil
       refine (if_pos (show Region.wanted _ _ = true from rfl)).mpr ?_
       refine op_storeN 27 (.tmp 3) (.tmp 57) rfl rfl rfl hst ?_
       trace "L2"
       refine hK9.out _ _ ?_ (fun hHeld2 => ?_)
       ·exact hHeld.then k54 (fun i hi e => by have : i = g53 := e; omega)
       clear hK9 K9
       refine wpAnyH_done (by kernel_rfl) ?_ _
       trace "L3"
       go_wp2
       trace "L4"
       go_meet
       exact ⟨g53, ⟨a28, c28, none, 0, a48, c48, a51, c51⟩, rfl, z53, ⟨b54, ⟨rfl, rfl⟩, own_blk e28 e53 (by decide) k54, own_blk e51 e53 (by decide) k54, own_blk e48 e53 (by decide) k54⟩, hHeld2⟩
   ·go_simp
    have ow45 := own_empty w53 wB.heap.size 5 hHeld.size
    have k45 : Kept No w53 (w53.alloc (.cells #[] 5)) := (Kept.refl No _).alloc _
    obtain ⟨g45, hg45⟩ : ∃ g, g = w53.heap.size := ⟨_, rfl⟩
    rw [← hg45] at ow45
    rw [← hg45]
    clear hg45
    generalize w53.alloc (.cells #[] 5) = w45 at *
    refine hK9.out _ _ ?_ (fun hHeld2 => ?_)
    ·exact hHeld.trans k45
    clear hK9 K9 hHeld
    have hHeld := hHeld2
    clear hHeld2
    refine wpAnyH_ready (rs := [28]) (by kernel_rfl) (by simp) ?_
    refine AllReadyH.cons rfl (fun K9 hK9 => ?_) AllReadyH.nil
    ·go_simp
     go_wp2_with (go_at_call 52; refine (fromlist_any s.wa s.wc p.willProps _ (hp.kept (hkB.trans hHeld)).hw hpf.hw).mono ?_; rintro e w28 ⟨a28, c28, rfl, ow28, k28⟩)
     have ow28 := own_mono ow28 hHeld.size
     refine hK9.out _ _ ?_ (fun hHeld2 => ?_)
     ·exact hHeld.trans k28
     clear hK9 K9 hHeld
     have hHeld := hHeld2
     clear hHeld2
     refine wpAnyH_ready (rs := [48]) (by kernel_rfl) (by simp) ?_
     refine AllReadyH.cons rfl (fun K9 hK9 => ?_) AllReadyH.nil
     ·have ow45b := (own_keptNo ow45 k28)
      obtain ⟨v48, w48, hrun48, ow48, hg48, hv48⟩ := append_bytes w28 wB.heap.size g45 s.ca s.cc p.codes ow45b (hp.kept (hkB.trans hHeld)).hc hcn (by have := hpf.hc; omega) hHeld.size
      have k48 : Kept No wB w48 := hHeld.grown hg48 (fun k e => .inl (by have := ow45b.lt k e; exact this.1))
      have k48b : Kept (One g45) w28 w48 := (Kept.refl _ _).grown hg48 (fun k e => .inr (by simp [Value.ownBlock] at e; exact e.symm))
      obtain ⟨a48, c48, rfl, _, _⟩ := own_form ow48
      refine (if_pos (show Region.wanted _ _ = true from rfl)).mpr ?_
      refine op_appendN (.tmp 50) (.tmp 52) 25 rfl rfl rfl hrun48 ?_
      refine hK9.out _ _ ?_ (fun hHeld2 => ?_)
      ·exact k48
      clear hK9 K9 hHeld
      have hHeld := hHeld2
      clear hHeld2
      go_simp
      refine wpAnyH_ready (rs := [51]) (by kernel_rfl) (by simp) ?_
      refine AllReadyH.cons rfl (fun K9 hK9 => ?_) AllReadyH.nil
      ·go_simp
       go_wp2_with (go_at_call 52; refine (fromlist_any s.pa s.pc p.props _ (hp.kept (hkB.trans hHeld)).hp hpf.hp).mono ?_; rintro e w51 ⟨a51, c51, rfl, ow51, k51⟩)
       have ow51 := own_mono ow51 hHeld.size
       refine hK9.out _ _ ?_ (fun hHeld2 => ?_)
       ·exact hHeld.trans k51
       clear hK9 K9 hHeld
       have hHeld := hHeld2
       clear hHeld2
       go_simp
       refine wtk (i := 52) (v := .agg (Pk.cells { p with filters := [] } ⟨a28, c28, none, 0, a48, c48, a51, c51⟩)) rfl (Or.inl ⟨by rfl, ?hhu53_45_28_48⟩) (by assumption) ?rru53_45_28_48
       case hhu53_45_28_48 => (intro wz9 hSw; trace "B0"; refine run_value (run_build wz9 _ _ _ ?_); kernel_rfl)
       trace "B1"
       go_simp
       trace "B2"
       have e28 := (own_keptNo (own_typ ow28 ow45b (by decide) k48b) k51)
       have e51 := ow51
       have e48 := (own_keptNo ow48 k51)
       have e53 := ((((b53.kept k45 (fun f => f)).kept k28 (fun f => f)).kept k48b (blk_typ ((b53.kept k45 (fun f => f)).kept k28 (fun f => f)) ow45b (by decide))).kept k51 (fun f => f))
       trace "L0"
       obtain ⟨w54, hst, b54, k54⟩ := store_agg (P := Tryz.prog) (S := 27) (c := Pk.cells { p with filters := [] } ⟨a28, c28, none, 0, a48, c48, a51, c51⟩) w51 e53 (by kernel_rfl) rfl (pk_one _ _)
       trace "L1"
       refine wpAnyH_ready (rs := [54]) (by kernel_rfl) (by simp) ?_
       refine AllReadyH.cons rfl (fun K9 hK9 => ?_) AllReadyH.nil
       refine (if_pos (show Region.wanted _ _ = true from rfl)).mpr ?_
       refine op_storeN 27 (.tmp 3) (.tmp 57) rfl rfl rfl hst ?_
       trace "L2"
       refine hK9.out _ _ ?_ (fun hHeld2 => ?_)
       ·exact hHeld.then k54 (fun i hi e => by have : i = g53 := e; omega)
       clear hK9 K9
       refine wpAnyH_done (by kernel_rfl) ?_ _
       trace "L3"
       go_wp2
       trace "L4"
       go_meet
       exact ⟨g53, ⟨a28, c28, none, 0, a48, c48, a51, c51⟩, rfl, z53, ⟨b54, ⟨rfl, rfl⟩, own_blk e28 e53 (by decide) k54, own_blk e51 e53 (by decide) k54, own_blk e48 e53 (by decide) k54⟩, hHeld2⟩
 case rest =>
  obtain ⟨zb, s', rfl, hzb, hTB, hkx⟩ := hcut
  go_wp2_with fail
  rename_i K8 hK8
  have HK8 := Lib.hid hK8
  clear hK8
  obtain ⟨bz, ⟨hsf, hsc⟩, ow, op, oc⟩ := hTB
  go_loopw [4] (fun i wr => ∃ (j : Nat) (af : Option Addr) (cf : Nat), i = .int .i64 j ∧ j ≤ p.filters.length ∧ Blk wr zb 27 (Pk.cells { p with filters := p.filters.take j } { s' with fa := af, fc := cf }) ∧ wr.ownsRow wB.heap.size 83 2 (.slice af j cf) j (FC (p.filters.take j)) ∧
   wr.ownsRow wB.heap.size 86 4 (.slice s'.wa p.willProps.length s'.wc) p.willProps.length (PC p.willProps) ∧ wr.ownsRow wB.heap.size 86 4 (.slice s'.pa p.props.length s'.pc) p.props.length (PC p.props) ∧ wr.ownsRow wB.heap.size 5 1 (.slice s'.ca p.codes.length s'.cc) p.codes.length (B8 p.codes) ∧ Kept No wB wr) (fun i _ => p.filters.length - (intOf i).toNat)
  case atStart =>
   refine ⟨0, none, 0, rfl, by omega, ?_, World.ownsRow_nil _ _ _ _, ow, op, oc, hkx⟩
   have : ({ s' with fa := none, fc := 0 } : Sl) = s' := by cases s'; simp at hsf hsc ⊢; exact ⟨hsf.symm, hsc.symm⟩
   rw [this]
   exact bz
  case round =>
   obtain ⟨j, af, cf, rfl, hj, bz1, of1, ow1, op1, oc1, hk1⟩ := hrel
   by_cases hlt : j < p.filters.length
   ·obtain ⟨b, off, hsa, hb, q0, q1⟩ := hp.hf.filt hlt
    have hwB : w.heap.size + 2 ≤ wB.heap.size := hszB
    have hlf := hpf.hf
    have hSb : ∀ k, k < wB.heap.size → ¬ SSt zb (.slice af j cf) k := fun k hk h => by
     rcases h with h | h
     ·omega
     ·have := (of1.lt k h).1; omega
    have Y22 := Lib.hid (fun wx (hk : Kept (SSt zb (.slice af j cf)) wr wx) => show wx.cell? ⟨w.heap.size, 22, none⟩ = some (.slice (some ⟨b, off, none⟩) p.filters.length s.fc) from by
     have h1 := CB.out wr hk1 22
     have h2 : wx.cell? ⟨w.heap.size, 22, none⟩ = wr.cell? ⟨w.heap.size, 22, none⟩ := hk.cell (p := ⟨w.heap.size, 22, none⟩) (by have := hk1.size; show w.heap.size < _; omega) (hSb _ (by show w.heap.size < _; omega))
     rw [h2, h1, ← hsa]
     rfl)
    have X0 := Lib.hid (fun wx (hk : Kept (SSt zb (.slice af j cf)) wr wx) => show wx.cell? ⟨b, off + j * 2, none⟩ = some (.string p.filters[j].text) from
     ((hk.cell (p := ⟨b, off + j * 2, none⟩) (by have := hk1.size; show b < _; omega) (hSb _ (by show b < _; omega))).trans (((hkB.trans hk1).cell (p := ⟨b, off + j * 2, none⟩) hb (fun f => f)))).trans q0)
    have X1 := Lib.hid (fun wx (hk : Kept (SSt zb (.slice af j cf)) wr wx) => show wx.cell? ⟨b, off + j * 2 + 1, none⟩ = some (.int .u8 p.filters[j].opt) from
     ((hk.cell (p := ⟨b, off + j * 2 + 1, none⟩) (by have := hk1.size; show b < _; omega) (hSb _ (by show b < _; omega))).trans (((hkB.trans hk1).cell (p := ⟨b, off + j * 2 + 1, none⟩) hb (fun f => f)))).trans q1)
    have HT : Hid (p.filters.take (j + 1) = p.filters.take j ++ [p.filters[j]]) := Lib.hid (List.take_succ_eq_append_getElem hlt)
    have htl : (p.filters.take j).length = j := by rw [List.length_take]; omega
    have htl2 : (p.filters.take (j + 1)).length = j + 1 := by rw [List.length_take]; omega
    have hltN : j + 1 ≤ p.filters.length := hlt
    generalize p.filters[j] = f at *
    obtain ⟨tx, ox⟩ := f
    dsimp only at X0 X1
    clear q0 q1 hsa hSb
    have y0 : wr.cell? ⟨w.heap.size, 22, none⟩ = some (.slice (some ⟨b, off, none⟩) p.filters.length s.fc) := Y22.out wr (Kept.refl _ _)
    go_wp2
    refine wp_region_held_drew (S := (fun wx => Kept (SSt zb (.slice af j cf)) wr wx)) (by kernel_rfl) ?_ (fun hHeld => ?_)
    ·exact (Kept.refl _ wr).drew
    have bz0 := bz1.drew
    have of0 : wr.drew.ownsRow wB.heap.size 83 2 (.slice af j cf) j (FC (p.filters.take j)) := of1
    have hs0 : wB.heap.size ≤ wr.drew.heap.size := hk1.size
    clear y0
    generalize wr.drew = W0 at *
    refine wtk (i := 0) (v := (.pointer (some ⟨zb, 22, none⟩))) rfl (Or.inl ⟨by rfl, ?hhrt0⟩) (by assumption) ?rrrt0
    case hhrt0 => (intro wz9 hSw; go_simp; try with_reducible rfl)
    go_simp
    refine wtk (i := 2) (v := (.pointer (some ⟨w.heap.size, 22, none⟩))) rfl (Or.inl ⟨by rfl, ?hhrt2⟩) (by assumption) ?rrrt2
    case hhrt2 => (intro wz9 hSw; go_simp; try with_reducible rfl)
    go_simp
    refine wtk (i := 3) (v := (.slice (some ⟨b, off, none⟩) p.filters.length s.fc)) rfl (Or.inl ⟨by rfl, ?hhrt3⟩) (by assumption) ?rrrt3
    case hhrt3 => (intro wz9 hSw; have hc := Y22.out wz9 hSw; go_simp; try with_reducible rfl)
    go_simp
    refine wtk (i := 4) (v := (.int .i64 j)) rfl (Or.inl ⟨by rfl, ?hhrt4⟩) (by assumption) ?rrrt4
    case hhrt4 => (intro wz9 hSw; go_simp; try with_reducible rfl)
    go_simp
    refine wtk (i := 5) (v := ?vvrt5) rfl (Or.inl ⟨by rfl, ?hhrt5⟩) (by assumption) ?rrrt5
    case hhrt5 => (intro wz9 hSw; go_simp; try with_reducible rfl)
    go_simp
    refine wtk (i := 6) (v := ?vvrt6) rfl (Or.inl ⟨by rfl, ?hhrt6⟩) (by assumption) ?rrrt6
    case hhrt6 => (intro wz9 hSw; go_simp; try with_reducible rfl)
    go_simp
    refine wtk (i := 7) (v := (.string tx)) rfl (Or.inl ⟨by rfl, ?hhrt7⟩) (by assumption) ?rrrt7
    case hhrt7 => (intro wz9 hSw; have hc := X0.out wz9 hSw; go_simp; try with_reducible rfl)
    go_simp
    refine wtk (i := 8) (v := (.pointer (some ⟨w.heap.size, 22, none⟩))) rfl (Or.inl ⟨by rfl, ?hhrt8⟩) (by assumption) ?rrrt8
    case hhrt8 => (intro wz9 hSw; go_simp; try with_reducible rfl)
    go_simp
    refine wtk (i := 9) (v := (.slice (some ⟨b, off, none⟩) p.filters.length s.fc)) rfl (Or.inl ⟨by rfl, ?hhrt9⟩) (by assumption) ?rrrt9
    case hhrt9 => (intro wz9 hSw; have hc := Y22.out wz9 hSw; go_simp; try with_reducible rfl)
    go_simp
    refine wtk (i := 10) (v := (.int .i64 j)) rfl (Or.inl ⟨by rfl, ?hhrt10⟩) (by assumption) ?rrrt10
    case hhrt10 => (intro wz9 hSw; go_simp; try with_reducible rfl)
    go_simp
    refine wtk (i := 11) (v := ?vvrt11) rfl (Or.inl ⟨by rfl, ?hhrt11⟩) (by assumption) ?rrrt11
    case hhrt11 => (intro wz9 hSw; go_simp; try with_reducible rfl)
    go_simp
    refine wtk (i := 12) (v := ?vvrt12) rfl (Or.inl ⟨by rfl, ?hhrt12⟩) (by assumption) ?rrrt12
    case hhrt12 => (intro wz9 hSw; go_simp; try with_reducible rfl)
    go_simp
    refine wtk (i := 13) (v := (.int .u8 ox)) rfl (Or.inl ⟨by rfl, ?hhrt13⟩) (by assumption) ?rrrt13
    case hhrt13 => (intro wz9 hSw; have hc := X1.out wz9 hSw; go_simp; try with_reducible rfl)
    go_simp
    refine wtk (i := 14) (v := (.agg #[.string tx, .int .u8 ox])) rfl (Or.inl ⟨by rfl, ?hhrt14⟩) (by assumption) ?rrrt14
    case hhrt14 => (intro wz9 hSw; go_simp; try with_reducible rfl)
    go_simp
    refine wpAnyH_ready (rs := [1, 15]) (by kernel_rfl) (by simp) ?_
    refine AllReadyH.cons rfl (fun K9 hK9 => ?_) (AllReadyH.cons rfl (fun K9 hK9 => ?_) AllReadyH.nil)
    ·have y0 : W0.cell? ⟨zb, 22, none⟩ = some (.slice af j cf) := by rw [bz0.cell 22]; simp [Pk.cells, htl]
     go_simp
     refine hK9.out _ _ ?_ (fun hHeld2 => ?_)
     ·exact hHeld
     clear hK9 K9 y0 hHeld2
     refine wpAnyH_ready (rs := [15]) (by kernel_rfl) (by simp) ?_
     refine AllReadyH.cons rfl (fun K9 hK9 => ?_) AllReadyH.nil
     ·go_simp
      have n15 := new_filt (w := W0) (t := 83) (p := ⟨tx, ox⟩)
      have bz15 := bz0.alloc (.cells #[.string tx, .int .u8 ox] 83)
      have of15 := own_keptNo of0 ((Kept.refl No W0).alloc (.cells #[.string tx, .int .u8 ox] 83))
      have k15 := hHeld.alloc (.cells #[.string tx, .int .u8 ox] 83)
      have hs15 : wB.heap.size ≤ (W0.alloc (.cells #[.string tx, .int .u8 ox] 83)).heap.size := by rw [World.size_alloc]; omega
      obtain ⟨g15, hg15⟩ : ∃ g, g = W0.heap.size := ⟨_, rfl⟩
      rw [← hg15] at n15
      rw [← hg15]
      clear hg15
      dsimp only at n15
      generalize W0.alloc (.cells #[.string tx, .int .u8 ox] 83) = w15 at *
      refine hK9.out _ _ ?_ (fun hHeld2 => ?_)
      ·exact k15
      clear hK9 K9 hHeld
      have hHeld := hHeld2
      clear hHeld2
      refine wpAnyH_ready (rs := [16]) (by kernel_rfl) (by simp) ?_
      refine AllReadyH.cons rfl (fun K9 hK9 => ?_) AllReadyH.nil
      ·obtain ⟨i0, hi, hz0, hz1, hz2⟩ := info_parts finfo_filt
       obtain ⟨v16, w16, hrun16, of16, hg16, _⟩ := run_append_own (P := Tryz.prog) w15 wB.heap.size 24 24 83 i0 _ 2 24 Tryz.underlying24 hi hz0 hz1 hz2 rfl (by decide) _ _ _ of15 ⟨g15, 0, none⟩ 1 1 (FC [⟨tx, ox⟩]) rfl n15 (FC_cell1 _) (by unfold maxLen; have := hpf.hf; omega) (by have := hpf.hf; omega) hs15
       obtain ⟨a16, c16, rfl, _, _⟩ := own_form of16
       have bz16 := bz15.grown hg16 (fun h => by obtain ⟨cur, hcur⟩ := own_typed of15 h; exact absurd (blk_eq bz15 hcur) (by decide))
       have k16 := hHeld.grown hg16 (fun k e => .inr (.inr e))
       refine (if_pos (show Region.wanted _ _ = true from rfl)).mpr ?_
       refine op_appendN (.tmp 66) (.tmp 80) 24 rfl rfl rfl hrun16 ?_
       refine hK9.out _ _ ?_ (fun hHeld2 => ?_)
       ·exact k16
       clear hK9 K9 hHeld
       have hHeld := hHeld2
       clear hHeld2
       go_simp
       refine wtk (i := 17) (v := (.pointer (some ⟨zb, 22, none⟩))) rfl (Or.inl ⟨by rfl, ?hhz1_1517⟩) (by assumption) ?rrz1_1517
       case hhz1_1517 => (intro wz9 hSw; go_simp; try with_reducible rfl)
       go_simp
       refine wpAnyH_ready (rs := [18]) (by kernel_rfl) (by simp) ?_
       refine AllReadyH.cons rfl (fun K9 hK9 => ?_) AllReadyH.nil
       ·have y18 := bz16.cell 22
        have f18 := bz16.frozen 22
        have yl18 := bz16.lt
        simp [Pk.cells] at y18
        go_simp
        refine hK9.out _ _ ?_ (fun hHeld2 => ?_)
        ·exact hHeld.setCell (.inr (.inl rfl)) _
        clear hK9 K9 y18
        refine wpAnyH_done (by kernel_rfl) ?_ _
        go_wp2
        go_roundw
        case rel => exact ⟨j + 1, a16, c16, by go_num, by omega, fto_set bz16 HT.out htl2, fto_own of16 bz16 HT.out, own_sep ow1 hHeld2 (fsst_no bz1 of1 (by decide) (by decide)), own_sep op1 hHeld2 (fsst_no bz1 of1 (by decide) (by decide)), own_sep oc1 hHeld2 (fsst_no bz1 of1 (by decide) (by decide)), hk1.then hHeld2 (fsst_ge of1 hzb)⟩
        case measure => (simp [intOf]; omega)
    ·go_simp
     have n15 := new_filt (w := W0) (t := 83) (p := ⟨tx, ox⟩)
     have bz15 := bz0.alloc (.cells #[.string tx, .int .u8 ox] 83)
     have of15 := own_keptNo of0 ((Kept.refl No W0).alloc (.cells #[.string tx, .int .u8 ox] 83))
     have k15 := hHeld.alloc (.cells #[.string tx, .int .u8 ox] 83)
     have hs15 : wB.heap.size ≤ (W0.alloc (.cells #[.string tx, .int .u8 ox] 83)).heap.size := by rw [World.size_alloc]; omega
     obtain ⟨g15, hg15⟩ : ∃ g, g = W0.heap.size := ⟨_, rfl⟩
     rw [← hg15] at n15
     rw [← hg15]
     clear hg15
     dsimp only at n15
     generalize W0.alloc (.cells #[.string tx, .int .u8 ox] 83) = w15 at *
     refine hK9.out _ _ ?_ (fun hHeld2 => ?_)
     ·exact k15
     clear hK9 K9 hHeld
     have hHeld := hHeld2
     clear hHeld2
     refine wpAnyH_ready (rs := [1]) (by kernel_rfl) (by simp) ?_
     refine AllReadyH.cons rfl (fun K9 hK9 => ?_) AllReadyH.nil
     ·have y1 : w15.cell? ⟨zb, 22, none⟩ = some (.slice af j cf) := by rw [bz15.cell 22]; simp [Pk.cells, htl]
      go_simp
      refine hK9.out _ _ ?_ (fun hHeld2 => ?_)
      ·exact hHeld
      clear hK9 K9 y1 hHeld2
      refine wpAnyH_ready (rs := [16]) (by kernel_rfl) (by simp) ?_
      refine AllReadyH.cons rfl (fun K9 hK9 => ?_) AllReadyH.nil
      ·obtain ⟨i0, hi, hz0, hz1, hz2⟩ := info_parts finfo_filt
       obtain ⟨v16, w16, hrun16, of16, hg16, _⟩ := run_append_own (P := Tryz.prog) w15 wB.heap.size 24 24 83 i0 _ 2 24 Tryz.underlying24 hi hz0 hz1 hz2 rfl (by decide) _ _ _ of15 ⟨g15, 0, none⟩ 1 1 (FC [⟨tx, ox⟩]) rfl n15 (FC_cell1 _) (by unfold maxLen; have := hpf.hf; omega) (by have := hpf.hf; omega) hs15
       obtain ⟨a16, c16, rfl, _, _⟩ := own_form of16
       have bz16 := bz15.grown hg16 (fun h => by obtain ⟨cur, hcur⟩ := own_typed of15 h; exact absurd (blk_eq bz15 hcur) (by decide))
       have k16 := hHeld.grown hg16 (fun k e => .inr (.inr e))
       refine (if_pos (show Region.wanted _ _ = true from rfl)).mpr ?_
       refine op_appendN (.tmp 66) (.tmp 80) 24 rfl rfl rfl hrun16 ?_
       refine hK9.out _ _ ?_ (fun hHeld2 => ?_)
       ·exact k16
       clear hK9 K9 hHeld
       have hHeld := hHeld2
       clear hHeld2
       go_simp
       refine wtk (i := 17) (v := (.pointer (some ⟨zb, 22, none⟩))) rfl (Or.inl ⟨by rfl, ?hhz15_117⟩) (by assumption) ?rrz15_117
       case hhz15_117 => (intro wz9 hSw; go_simp; try with_reducible rfl)
       go_simp
       refine wpAnyH_ready (rs := [18]) (by kernel_rfl) (by simp) ?_
       refine AllReadyH.cons rfl (fun K9 hK9 => ?_) AllReadyH.nil
       ·have y18 := bz16.cell 22
        have f18 := bz16.frozen 22
        have yl18 := bz16.lt
        simp [Pk.cells] at y18
        go_simp
        refine hK9.out _ _ ?_ (fun hHeld2 => ?_)
        ·exact hHeld.setCell (.inr (.inl rfl)) _
        clear hK9 K9 y18
        refine wpAnyH_done (by kernel_rfl) ?_ _
        go_wp2
        go_roundw
        case rel => exact ⟨j + 1, a16, c16, by go_num, by omega, fto_set bz16 HT.out htl2, fto_own of16 bz16 HT.out, own_sep ow1 hHeld2 (fsst_no bz1 of1 (by decide) (by decide)), own_sep op1 hHeld2 (fsst_no bz1 of1 (by decide) (by decide)), own_sep oc1 hHeld2 (fsst_no bz1 of1 (by decide) (by decide)), hk1.then hHeld2 (fsst_ge of1 hzb)⟩
        case measure => (simp [intOf]; omega)
   ·have hje : j = p.filters.length := by omega
    have y0 : wr.cell? ⟨w.heap.size, 22, none⟩ = some (.slice s.fa p.filters.length s.fc) := CB.out wr hk1 22
    have hFT : p.filters.take j = p.filters := List.take_of_length_le (by omega)
    have hpp : ({ p with filters := p.filters } : Pk) = p := rfl
    rw [hFT] at bz1 of1
    rw [hpp] at bz1
    have hB2r := hB2.kept hk1 (fun f => f)
    clear hFT hpp
    have HJE := Lib.hid hje
    clear hje
    go_wp2
    refine HK8.out _ _ ?_
    clear HK8
    have u := Tryz.underlying27
    refine wp_seq ?_
    refine wp_region_lit ?_
    refine wpList_do rfl (v := .agg (Pk.cells p { s' with fa := af, fc := cf })) (w' := wr) ?_ ?_
    ·exact run_value (load_agg (k := 25) (S := 27) _ rfl zb wr (by go_simp) (by go_simp) (fun i => bz1.cell i))
    obtain ⟨w9, hst, b9, k9⟩ := store_agg (P := Tryz.prog) (S := 27) (c := Pk.cells p { s' with fa := af, fc := cf }) wr hB2r (by kernel_rfl) rfl (pk_one _ _)
    refine wpList_st rfl (w' := w9) (run_skip hst) ?_
    refine wpList_nil ?_
    refine wp_ret_any ?_
    refine (show bodyPost Tryz.prog Tryz.f24 (fun e w' => ∃ s', e = Ending.returned (Value.agg (p.cells s')) ∧ p.At s' w' ∧ Kept No w w' ∧ (s'.ca = none → p.codes.length = 0 ∧ s'.cc = 0)) Exit.ret _ _ from ?_)
    have hN := HJE.out
    subst hN
    refine bodyPost_ret (v := .agg (Pk.cells p { s' with fa := af, fc := cf })) ?_ rfl ⟨{ s' with fa := af, fc := cf }, rfl, ⟨(own_row (own_blk ow1 hB2r (by decide) k9)).1, (own_row (own_blk of1 hB2r (by decide) k9)).1, (own_row (own_blk oc1 hB2r (by decide) k9)).1, (own_row (own_blk op1 hB2r (by decide) k9)).1⟩, (hkB.trans hk1).then k9 (fun i hi e => by have : i = w.heap.size + 1 := e; omega), (own_row (own_blk oc1 hB2r (by decide) k9)).2⟩
    have e9 := load_agg (P := Tryz.prog) (k := 25) (S := 27) (Pk.cells p { s' with fa := af, fc := cf }) rfl (w.heap.size + 1) w9 (by go_simp) (by go_simp) (fun i => b9.cell i)
    exact results_cell Tryz.results24 rfl e9
end Go.Proofs.YtomppebamfpimaaGreatDoor
