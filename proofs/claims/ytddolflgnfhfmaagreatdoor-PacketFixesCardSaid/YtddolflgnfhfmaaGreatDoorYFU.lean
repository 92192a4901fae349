import Derived.Test.YtddolflgnfhfmaaGreatDoorYFT
import Derived.Test.YtddolflgnfhfmaaGreatDoorYFL
import Derived.Test.YtddolflgnfhfmaaGreatDoorYFV
namespace Go.Proofs.YtddolflgnfhfmaaGreatDoor
open Go.RowKit
set_option linter.unusedVariables false
set_option linter.unusedSimpArgs false
set_option maxRecDepth 100000
structure Fine (m : Nat) (p : Pk) : Prop where
 client : p.client.size ≤ m
 willTopic : p.willTopic.size ≤ m
 willLoad : p.willLoad.size ≤ m
 user : p.user.size ≤ m
 pass : p.pass.size ≤ m
 topic : p.topic.size ≤ m
 load : p.load.size ≤ m
 codes : p.codes.length ≤ m
 nf : p.filters.length ≤ 10
 np : p.props.length ≤ 10
 nw : p.willProps.length ≤ 10
 tf : ∀ f ∈ p.filters, f.opt < 256 ∧ f.text.size ≤ 60
 tp : ∀ x ∈ p.props, x.id < 256 ∧ x.n < 4294967296 ∧ x.a.size ≤ 32 ∧ x.b.size ≤ 32
 tw : ∀ x ∈ p.willProps, x.id < 256 ∧ x.n < 4294967296 ∧ x.a.size ≤ 32 ∧ x.b.size ≤ 32
 qos : p.qos < 256
 id : p.id < 65536
 keep : p.keep < 65536
 wq : p.willQoS < 256
 code : p.code < 256
theorem Fine.fit {m : Nat} {p : Pk} (h : Fine m p) (hm : m ≤ 60) : Fit p := by
 have h1 := h.client; have h2 := h.willTopic; have h3 := h.willLoad; have h4 := h.user; have h5 := h.pass; have h6 := h.topic; have h7 := h.load; have h8 := h.codes; have h9 := h.nf; have h10 := h.np; have h11 := h.nw
 exact ⟨⟨by omega, by omega, by omega, by omega⟩, ⟨fun x hx => ⟨(h.tw x hx).1, (h.tw x hx).2.1, by have := (h.tw x hx).2.2.1; omega, by have := (h.tw x hx).2.2.2; omega⟩, fun x hx => ⟨(h.tp x hx).1, (h.tp x hx).2.1, by have := (h.tp x hx).2.2.1; omega, by have := (h.tp x hx).2.2.2; omega⟩⟩,
  ⟨by omega, by omega, by omega, by omega, by omega, by omega, by omega, by omega, by omega, by omega, by omega, fun f hf => by have := (h.tf f hf).2; omega, fun x hx => ⟨by have := (h.tp x hx).2.2.1; omega, by have := (h.tp x hx).2.2.2; omega⟩, fun x hx => ⟨by have := (h.tw x hx).2.2.1; omega, by have := (h.tw x hx).2.2.2; omega⟩⟩, h.qos, h.id, h.keep, h.wq, h.code, fun f hf => (h.tf f hf).1⟩
theorem Fine.small {m : Nat} {p : Pk} (h : Fine m p) (hm : m ≤ 60) : Small p := by
 have h1 := h.client; have h2 := h.willTopic; have h3 := h.willLoad; have h4 := h.user; have h5 := h.pass; have h6 := h.topic; have h7 := h.load; have h8 := h.codes; have h9 := h.nf; have h10 := h.np; have h11 := h.nw
 exact ⟨by omega, by omega, by omega, by omega, fun f hf => by have := (h.tf f hf).2; omega, fun x hx => ⟨by have := (h.tp x hx).2.2.1; omega, by have := (h.tp x hx).2.2.2; omega⟩, fun x hx => ⟨by have := (h.tw x hx).2.2.1; omega, by have := (h.tw x hx).2.2.2; omega⟩⟩
theorem Fine.mono {m n : Nat} {p : Pk} (h : Fine m p) (hm : m ≤ n) : Fine n p :=
 ⟨Nat.le_trans h.client hm, Nat.le_trans h.willTopic hm, Nat.le_trans h.willLoad hm, Nat.le_trans h.user hm, Nat.le_trans h.pass hm, Nat.le_trans h.topic hm, Nat.le_trans h.load hm, Nat.le_trans h.codes hm, h.nf, h.np, h.nw, h.tf, h.tp, h.tw, h.qos, h.id, h.keep, h.wq, h.code⟩
theorem FixQ.fineQ {v : Int} {q : Pk} (h : FixQ v q) : Fine 40 q :=
 ⟨h.sc, h.wts, h.sw, h.su, h.spl, h.tops, h.sl, by have := h.cl; omega, by have := h.fl2; omega, h.prn, h.wprn, fun f hf => ⟨(h.fl f hf).2.1, by have := (h.fl f hf).2.2; omega⟩, h.prs, h.wprs, by have := h.qos; omega, h.id, h.keep, by have := h.wq; omega, h.codel⟩
theorem Fine.bare {m : Nat} {q : Pk} (h : Fine m q) : Fine m (bareP q) := by
 have e0 : (0 : Nat) ≤ m := Nat.zero_le _
 have es : ∀ (b : Bool) (s : ByteArray), s.size ≤ m → (if b then s else ⟨#[]⟩ : ByteArray).size ≤ m := fun b s hs => by cases b; exact e0; exact hs
 have ez : (⟨#[]⟩ : ByteArray).size ≤ m := e0
 have en : ∀ (b : Bool) (k n : Nat), k < n → 0 < n → (if b then k else 0) < n := fun b k n hk hn => by cases b; exact hn; exact hk
 have ew : ∀ (b : Bool), (if b then q.willProps else []).length ≤ 10 := fun b => by cases b; exact Nat.zero_le _; exact h.nw
 have ex : ∀ (b : Bool), ∀ x ∈ (if b then q.willProps else []), x.id < 256 ∧ x.n < 4294967296 ∧ x.a.size ≤ 32 ∧ x.b.size ≤ 32 := fun b => by cases b; (intro x hx; cases hx); exact h.tw
 have en2 : ∀ {α : Type}, ([] : List α).length ≤ 10 := fun {α} => Nat.zero_le _
 have em : ∀ {α : Type}, ([] : List α).length ≤ m := fun {α} => Nat.zero_le _
 unfold bareP
 split
 ·exact ⟨h.client, es _ _ h.willTopic, es _ _ h.willLoad, es _ _ h.user, es _ _ h.pass, ez, ez, em, en2, h.np, ew _, (fun f hf => by cases hf), h.tp, ex _, (show 0 < 256 by decide), (show 0 < 65536 by decide), h.keep, en _ _ _ h.wq (by decide), (show 0 < 256 by decide)⟩
 all_goals (repeat' split)
 all_goals (refine ⟨?_, ?_, ?_, ?_, ?_, ?_, ?_, ?_, ?_, ?_, ?_, ?_, ?_, ?_, ?_, ?_, ?_, ?_, ?_⟩ <;> first | exact ez | exact h.topic | exact h.load | exact em | exact h.codes | exact en2 | exact h.nf | exact h.np | exact h.tf | exact h.tp | exact h.qos | exact h.id | exact h.code | exact (by decide : 0 < 256) | exact (by decide : 0 < 65536) | (intro x hx; cases hx))
theorem own_store {w : World} {B k n c g i : Nat} {e T : TypeId} {xs : List Value} {v : Value} (h : w.ownsRow B e k (.slice (some ⟨g, 0, none⟩) n c) n xs) (hs : (Go.sizeOf T).run Tryz.prog w = .ok 1 w) (h1 : v.oneCell' = true) (hi : i < n * k) :
  ∃ w', (Instr.storeAt T (.pointer (some ⟨g, i, none⟩)) v).run Tryz.prog w = .ok () w' ∧ w'.ownsRow B e k (.slice (some ⟨g, 0, none⟩) n c) n (xs.set i v) ∧ Kept (Sv (.slice (some ⟨g, 0, none⟩) n c)) w w' := by
 rcases h.2 with ⟨hv, _⟩ | ⟨g', cap, cur, q1, q2, q3, q4, q5, q6, q7⟩
 ·cases hv
 ·injection q1 with q1 _ qc
  injection q1 with q1
  injection q1 with q1 _ _
  subst q1 qc
  have hmul : n * k ≤ c * k := Nat.mul_le_mul_right k q4
  obtain ⟨w', hr, hB, hk⟩ := gx_set (P := Tryz.prog) (T := T) (i := i) (v := v) (c' := cur.setIfInBounds i v) w (show Blk w g e cur from q3) hs h1 (by omega) rfl
  refine ⟨w', hr, ⟨by rw [List.length_set]; exact h.1, .inr ⟨g, c, cur.setIfInBounds i v, rfl, q2, hB, q4, q5, by simpa using q6, ?_⟩⟩, hk.mono (fun x _ hx => by have hx : x = g := hx; subst hx; exact rfl)⟩
  rw [← q7, Array.toList_setIfInBounds, List.take_set]
theorem own_some {w : World} {B k n c : Nat} {e : TypeId} {xs : List Value} {a : Option Addr} (h : w.ownsRow B e k (.slice a n c) n xs) (hn : 0 < n) : ∃ g, a = some ⟨g, 0, none⟩ := by
 rcases h.2 with ⟨hv, _⟩ | ⟨g', cap, cur, q1, _⟩
 ·injection hv with _ hv _; omega
 ·injection q1 with q1 _ _; exact ⟨g', q1⟩
theorem km0 {w0 w W W9 : World} {B : Nat} (h0 : Kept No w0 w) (h : Kept No w W) (hk : Kept (fun k => k = B ∨ (w0.heap.size ≤ k ∧ k < w.heap.size)) W W9) (hB : w.heap.size ≤ B) : Kept No w0 W9 :=
 (h0.trans h).then hk (fun i hi e => by have := h0.size; rcases e with e | e <;> omega)
theorem km1 {W W' W9 : World} {B : Nat} {S : Nat → Prop} (h : Kept (One B) W W') (hk : Kept S W' W9) : Kept (fun k => k = B ∨ S k) W W9 :=
 (h.mono (fun _ _ e => .inl e)).then hk (fun _ _ e => .inr e)
theorem og_mid {w W W9 : World} {B a k n : Nat} {e t : TypeId} {v : Value} {xs : List Value} {c : Array Value} (h : W.ownsRow w.heap.size e k v n xs) (hb : Blk W B t c) (ht : t ≠ e) (hk : Kept (fun i => i = B ∨ (a ≤ i ∧ i < w.heap.size)) W W9) : W9.ownsRow w.heap.size e k v n xs :=
 og_sv h (fun g hg hS => by
  rcases hS with rfl | hS
  ·exact sv_type h hb ht hg
  ·have := (h.lt g hg).1; omega) hk
theorem append_filts (w : World) (base g : Nat) (a : Option Addr) (c : Nat) (l : List Fi) (hown : w.ownsRow base 85 2 (.slice (some ⟨g, 0, none⟩) 0 0) 0 []) (hr : Row w a (FC l)) (h0 : 0 < l.length) (hl : l.length ≤ 100000) (hb : base ≤ w.heap.size) :
  ∃ v' w', (Builtin.append_ #[25, 25] 25 #[.slice (some ⟨g, 0, none⟩) 0 0, .slice a l.length c]).run Tryz.prog w = .ok v' w' ∧ w'.ownsRow base 85 2 v' l.length (FC l) ∧ w.grownBy w' (some g) := by
 obtain ⟨i0, hi, hz0, hz1, hz2⟩ := info_parts finfo_filt
 obtain ⟨b, off, rfl, _, _⟩ := hr.filt h0
 obtain ⟨v', w', h1, h2, h3, h4⟩ := run_append_own (P := Tryz.prog) w base 25 25 85 i0 _ 2 24 Tryz.underlying25 hi hz0 hz1 hz2 rfl (by decide) _ _ _ hown ⟨b, off, none⟩ l.length c (FC l) (FC_length l) (hr.at_add _ rfl) (FC_cell1 l) (by unfold maxLen; omega) (by omega) hb
 exact ⟨v', w', h1, by simpa using h2, h3⟩
def pick4 (a b c d : ByteArray) : Nat → ByteArray
 | 0 => a
 | 1 => b
 | 2 => c
 | _ => d
theorem pick4_at {w : World} {b m : Nat} {t : TypeId} {x y z u : ByteArray} (hB : Blk w b t #[.string x, .string y, .string z, .string u]) (hm : m < 4) : w.cell? ⟨b, 0 + m * 1, none⟩ = some (.string (pick4 x y z u m)) := by
 rw [Nat.zero_add, Nat.mul_one, hB.cell]
 match m, hm with
 | 0, _ => rfl
 | 1, _ => rfl
 | 2, _ => rfl
 | 3, _ => rfl
theorem pick4_len {x y z u : ByteArray} {m n : Nat} (h1 : x.size ≤ n) (h2 : y.size ≤ n) (h3 : z.size ≤ n) (h4 : u.size ≤ n) : (pick4 x y z u m).size ≤ n := by unfold pick4; split <;> assumption
def setOpt : List Fi → Nat → List Fi
 | f :: t, n => ⟨f.text, n⟩ :: t
 | [], _ => []
theorem setOpt_len (L : List Fi) (n : Nat) : (setOpt L n).length = L.length := by cases L <;> rfl
theorem setOpt_set (L : List Fi) (n : Nat) (h : 0 < L.length) : (FC L).set 1 (.int .u8 (n : Int)) = FC (setOpt L n) := by
 cases L with
 | nil => simp at h
 | cons f t => rfl
theorem setOpt_mem {L : List Fi} {n : Nat} (hn : n < 256) (h : ∀ f ∈ L, f.opt < 256 ∧ f.text.size ≤ 60) : ∀ f ∈ setOpt L n, f.opt < 256 ∧ f.text.size ≤ 60 := by
 cases L with
 | nil => intro f hf; cases hf
 | cons f t =>
  intro g hg
  rcases List.mem_cons.1 hg with rfl | hg
  ·exact ⟨hn, (h f (List.mem_cons_self ..)).2⟩
  ·exact h g (List.mem_cons_of_mem _ hg)
theorem setC_set (L : List UInt8) (n : Nat) (h : n < 256) : (B8 L).set 0 (.int .u8 (n : Int)) = B8 (L.set 0 (UInt8.ofNat n)) := by
 unfold B8
 rw [List.map_set, ofNat_toNat _ h]
theorem cv_816 (n : Nat) (w : World) (h : n < 256) : (convert 5 23 (.int .u8 (n : Int))).run Tryz.prog w = .ok (.int .u16 (n : Int)) w := by
 have u := Tryz.underlying5
 have u2 := Tryz.underlying23
 have e : IntKind.u16.wrap (n : Int) = n := by rw [IntKind.wrap_u16]; omega
 go_simp
 try exact e
def TurnIs (w0 w : World) (e : Ending) (w' : World) : Prop := ∃ q s', e = .returned (Pk.val q s') ∧ (∀ W9, Kept (fun k => w0.heap.size ≤ k ∧ k < w.heap.size) w' W9 → q.At s' W9) ∧ Fine 41 q ∧ (s'.ca = none → q.codes.length = 0 ∧ s'.cc = 0) ∧ Kept No w w'
set_option maxHeartbeats 4000000 in
theorem turn_any (q : Pk) (s : Sl) (w0 w : World) (hp0 : q.At s w0) (hk0 : Kept No w0 w) (hcn : s.ca = none → q.codes.length = 0 ∧ s.cc = 0) (hF : Fine 40 q) (t : Int) (n : Nat) (hn : n < 256) :
  Calls Tryz.prog 19 #[q.val s, .int .i64 t, .int .u8 n] w (TurnIs w0 w) := by
 have hp := hp0.kept hk0
 obtain ⟨k, hkm, hk⟩ := kind_mod t 14 (by decide) (by decide)
 have hM := hF.mono (show 40 ≤ 41 by decide)
 have hnf := hF.nf; have hnc := hF.codes
 let RR : Ending → World → Prop := TurnIs w0 w
 go_enter Tryz.func19, Tryz.ntmps19
 generalize hA : ({ tmps := _, defers := [] } : Act) = A
 have F : Fr A 124 [(2, (.int .u8 ((n : Int)))), (1, (.int .i64 t)), (0, (Pk.val q s))] := by rw [← hA]; exact (Fr.cons (i := 2) (v := (.int .u8 ((n : Int)))) (Fr.cons (i := 1) (v := (.int .i64 t)) (Fr.cons (i := 0) (v := (Pk.val q s)) (Fr.nil0 rfl rfl) rfl) rfl) rfl)
 clear hA; have H := Hp.start w
 refine wp_seq_k (fun K1 hK1 => gx_region ?_)
 refine hz_new (c := (Pk.cells q s)) (t := 28) F H rfl (ex_box rfl (F.e rfl) (gx_box _ _)) ?_; clear F A; intro b2 W A hk hN H9 F; clear H; have H := H9; clear H9
 clear hk hN
 refine hz_new (c := zeroPk) (t := 28) F H rfl (ex_alloc rfl (al_28 _)) ?_; clear F A; intro b3 W A hk hN H9 F; clear H; have H := H9; clear H9
 clear hk hN
 refine wpList_nil (hK1 _ _ ?_)
 refine hz_cut (fun A W => ∃ q2 : Pk, ∃ s2 : Sl, Fr A 124 [(3, (.pointer (some ⟨b2, 0, none⟩))), (6, (.pointer (some ⟨b3, 0, none⟩)))] ∧ Hp w W [⟨b3, 28, zeroPk⟩, ⟨b2, 28, (Pk.cells q2 s2)⟩] ∧ ((∀ W9, Kept (fun k => k = b3 ∨ (w0.heap.size ≤ k ∧ k < w.heap.size)) W W9 → Pk.At q2 s2 W9)) ∧ (Fine 41 q2) ∧ ((s2.ca = none → q2.codes.length = 0 ∧ s2.cc = 0))) (fun A W hM => ?_) (fun K4 hK4 => ?_)
 rotate_left
 ·skip
  refine wp_seq_k (fun K5 hK5 => gx_region ?_)
  refine zd ?_; intro A F
  refine hz_do F rfl (ex_conv rfl (F.e rfl) (cv_u64 _ _)) ?_; intro A F
  refine zb (rn_rem (by decide) hkm) ?_; intro A F
  refine hz_do F rfl (ex_conv rfl (F.e rfl) (cv_i64 _ _ (by omega))) ?_; intro A F
  refine wpList_nil (hK5 _ _ ?_)
  refine wp_block ?_
  refine wp_seq_k (fun K6 hK6 => gx_region ?_)
  refine zb (rn_eqlN (i := k) (j := 0)) ?_; intro A F
  refine zd ?_; intro A F
  refine wpList_nil (hK6 _ _ ?_)
  refine zc (fun hb7 => ?_) (fun hb7 => ?_)
  ·skip
   refine gx_region ?_
   refine zd ?_; intro A F
   refine hz_do F rfl (ex_conv rfl (F.e rfl) (cv8_any _ _ (by omega) (by omega))) ?_; intro A F
   refine zb (rn_remN (i := n) (j := 18) (by decide)) ?_; intro A F
   refine zd ?_; intro A F
   let P8 : Pk := { q with kind := ((n % 18 : Nat) : Int) }
   refine zs [_] ((Pk.cells P8 s)) ?_; intro W H9 hk
   clear H hk; have H := H9; clear H9
   refine wpList_nil ?_
   exact hK4 _ _ ⟨P8, s, ((F.nil.cons (F.g 6 _ rfl)).cons (F.g 3 _ rfl)), H, (fun W9 hk9 => ⟨(hp0.kept (km0 hk0 H.k hk9 (H.b.at_ (j := 0) rfl).2)).hw, (hp0.kept (km0 hk0 H.k hk9 (H.b.at_ (j := 0) rfl).2)).hf, (hp0.kept (km0 hk0 H.k hk9 (H.b.at_ (j := 0) rfl).2)).hc, (hp0.kept (km0 hk0 H.k hk9 (H.b.at_ (j := 0) rfl).2)).hp⟩), ⟨hM.client, hM.willTopic, hM.willLoad, hM.user, hM.pass, hM.topic, hM.load, hM.codes, hM.nf, hM.np, hM.nw, hM.tf, hM.tp, hM.tw, hM.qos, hM.id, hM.keep, hM.wq, hM.code⟩, hcn⟩
  refine wp_seq_k (fun K9 hK9 => gx_region ?_)
  refine zb (rn_eqlN (i := k) (j := 1)) ?_; intro A F
  refine zd ?_; intro A F
  refine wpList_nil (hK9 _ _ ?_)
  refine zc (fun hb10 => ?_) (fun hb10 => ?_)
  ·skip
   refine gx_region ?_
   iterate 4 (refine zd ?_; intro A F)
   let P11 : Pk := { q with dup := !q.dup }
   refine zs [_] ((Pk.cells P11 s)) ?_; intro W H9 hk
   clear H hk; have H := H9; clear H9
   refine wpList_nil ?_
   exact hK4 _ _ ⟨P11, s, ((F.nil.cons (F.g 6 _ rfl)).cons (F.g 3 _ rfl)), H, (fun W9 hk9 => ⟨(hp0.kept (km0 hk0 H.k hk9 (H.b.at_ (j := 0) rfl).2)).hw, (hp0.kept (km0 hk0 H.k hk9 (H.b.at_ (j := 0) rfl).2)).hf, (hp0.kept (km0 hk0 H.k hk9 (H.b.at_ (j := 0) rfl).2)).hc, (hp0.kept (km0 hk0 H.k hk9 (H.b.at_ (j := 0) rfl).2)).hp⟩), ⟨hM.client, hM.willTopic, hM.willLoad, hM.user, hM.pass, hM.topic, hM.load, hM.codes, hM.nf, hM.np, hM.nw, hM.tf, hM.tp, hM.tw, hM.qos, hM.id, hM.keep, hM.wq, hM.code⟩, hcn⟩
  refine wp_seq_k (fun K12 hK12 => gx_region ?_)
  refine zb (rn_eqlN (i := k) (j := 2)) ?_; intro A F
  refine zd ?_; intro A F
  refine wpList_nil (hK12 _ _ ?_)
  refine zc (fun hb13 => ?_) (fun hb13 => ?_)
  ·skip
   refine gx_region ?_
   refine zd ?_; intro A F
   refine zb (rn_remN (i := n) (j := 4) (by decide)) ?_; intro A F
   refine zd ?_; intro A F
   let P14 : Pk := { q with qos := (n % 4) }
   refine zs [_] ((Pk.cells P14 s)) ?_; intro W H9 hk
   clear H hk; have H := H9; clear H9
   refine wpList_nil ?_
   exact hK4 _ _ ⟨P14, s, ((F.nil.cons (F.g 6 _ rfl)).cons (F.g 3 _ rfl)), H, (fun W9 hk9 => ⟨(hp0.kept (km0 hk0 H.k hk9 (H.b.at_ (j := 0) rfl).2)).hw, (hp0.kept (km0 hk0 H.k hk9 (H.b.at_ (j := 0) rfl).2)).hf, (hp0.kept (km0 hk0 H.k hk9 (H.b.at_ (j := 0) rfl).2)).hc, (hp0.kept (km0 hk0 H.k hk9 (H.b.at_ (j := 0) rfl).2)).hp⟩), ⟨hM.client, hM.willTopic, hM.willLoad, hM.user, hM.pass, hM.topic, hM.load, hM.codes, hM.nf, hM.np, hM.nw, hM.tf, hM.tp, hM.tw, (show n % 4 < 256 from by omega), hM.id, hM.keep, hM.wq, hM.code⟩, hcn⟩
  refine wp_seq_k (fun K15 hK15 => gx_region ?_)
  refine zb (rn_eqlN (i := k) (j := 3)) ?_; intro A F
  refine zd ?_; intro A F
  refine wpList_nil (hK15 _ _ ?_)
  refine zc (fun hb16 => ?_) (fun hb16 => ?_)
  ·skip
   refine gx_region ?_
   refine zd ?_; intro A F
   refine zb (rn_remN (i := n) (j := 2) (by decide)) ?_; intro A F
   refine hz_do F rfl (ex_conv rfl (F.e rfl) (cv_816 _ _ (by omega))) ?_; intro A F
   refine zd ?_; intro A F
   let P17 : Pk := { q with id := (n % 2) }
   refine zs [_] ((Pk.cells P17 s)) ?_; intro W H9 hk
   clear H hk; have H := H9; clear H9
   refine wpList_nil ?_
   exact hK4 _ _ ⟨P17, s, ((F.nil.cons (F.g 6 _ rfl)).cons (F.g 3 _ rfl)), H, (fun W9 hk9 => ⟨(hp0.kept (km0 hk0 H.k hk9 (H.b.at_ (j := 0) rfl).2)).hw, (hp0.kept (km0 hk0 H.k hk9 (H.b.at_ (j := 0) rfl).2)).hf, (hp0.kept (km0 hk0 H.k hk9 (H.b.at_ (j := 0) rfl).2)).hc, (hp0.kept (km0 hk0 H.k hk9 (H.b.at_ (j := 0) rfl).2)).hp⟩), ⟨hM.client, hM.willTopic, hM.willLoad, hM.user, hM.pass, hM.topic, hM.load, hM.codes, hM.nf, hM.np, hM.nw, hM.tf, hM.tp, hM.tw, hM.qos, (show n % 2 < 65536 from by omega), hM.keep, hM.wq, hM.code⟩, hcn⟩
  refine wp_seq_k (fun K18 hK18 => gx_region ?_)
  refine zb (rn_eqlN (i := k) (j := 4)) ?_; intro A F
  refine zd ?_; intro A F
  refine wpList_nil (hK18 _ _ ?_)
  refine zc (fun hb19 => ?_) (fun hb19 => ?_)
  ·skip
   refine gx_region ?_
   iterate 4 (refine zd ?_; intro A F)
   let P20 : Pk := { q with hasWill := !q.hasWill }
   refine zs [_] ((Pk.cells P20 s)) ?_; intro W H9 hk
   clear H hk; have H := H9; clear H9
   refine wpList_nil ?_
   exact hK4 _ _ ⟨P20, s, ((F.nil.cons (F.g 6 _ rfl)).cons (F.g 3 _ rfl)), H, (fun W9 hk9 => ⟨(hp0.kept (km0 hk0 H.k hk9 (H.b.at_ (j := 0) rfl).2)).hw, (hp0.kept (km0 hk0 H.k hk9 (H.b.at_ (j := 0) rfl).2)).hf, (hp0.kept (km0 hk0 H.k hk9 (H.b.at_ (j := 0) rfl).2)).hc, (hp0.kept (km0 hk0 H.k hk9 (H.b.at_ (j := 0) rfl).2)).hp⟩), ⟨hM.client, hM.willTopic, hM.willLoad, hM.user, hM.pass, hM.topic, hM.load, hM.codes, hM.nf, hM.np, hM.nw, hM.tf, hM.tp, hM.tw, hM.qos, hM.id, hM.keep, hM.wq, hM.code⟩, hcn⟩
  refine wp_seq_k (fun K21 hK21 => gx_region ?_)
  refine zb (rn_eqlN (i := k) (j := 5)) ?_; intro A F
  refine zd ?_; intro A F
  refine wpList_nil (hK21 _ _ ?_)
  refine zc (fun hb22 => ?_) (fun hb22 => ?_)
  ·skip
   refine gx_region ?_
   iterate 4 (refine zd ?_; intro A F)
   let P23 : Pk := { q with hasUser := !q.hasUser }
   refine zs [_] ((Pk.cells P23 s)) ?_; intro W H9 hk
   clear H hk; have H := H9; clear H9
   refine wpList_nil ?_
   exact hK4 _ _ ⟨P23, s, ((F.nil.cons (F.g 6 _ rfl)).cons (F.g 3 _ rfl)), H, (fun W9 hk9 => ⟨(hp0.kept (km0 hk0 H.k hk9 (H.b.at_ (j := 0) rfl).2)).hw, (hp0.kept (km0 hk0 H.k hk9 (H.b.at_ (j := 0) rfl).2)).hf, (hp0.kept (km0 hk0 H.k hk9 (H.b.at_ (j := 0) rfl).2)).hc, (hp0.kept (km0 hk0 H.k hk9 (H.b.at_ (j := 0) rfl).2)).hp⟩), ⟨hM.client, hM.willTopic, hM.willLoad, hM.user, hM.pass, hM.topic, hM.load, hM.codes, hM.nf, hM.np, hM.nw, hM.tf, hM.tp, hM.tw, hM.qos, hM.id, hM.keep, hM.wq, hM.code⟩, hcn⟩
  refine wp_seq_k (fun K24 hK24 => gx_region ?_)
  refine zb (rn_eqlN (i := k) (j := 6)) ?_; intro A F
  refine zd ?_; intro A F
  refine wpList_nil (hK24 _ _ ?_)
  refine zc (fun hb25 => ?_) (fun hb25 => ?_)
  ·skip
   refine gx_region ?_
   iterate 4 (refine zd ?_; intro A F)
   let P26 : Pk := { q with hasPass := !q.hasPass }
   refine zs [_] ((Pk.cells P26 s)) ?_; intro W H9 hk
   clear H hk; have H := H9; clear H9
   refine wpList_nil ?_
   exact hK4 _ _ ⟨P26, s, ((F.nil.cons (F.g 6 _ rfl)).cons (F.g 3 _ rfl)), H, (fun W9 hk9 => ⟨(hp0.kept (km0 hk0 H.k hk9 (H.b.at_ (j := 0) rfl).2)).hw, (hp0.kept (km0 hk0 H.k hk9 (H.b.at_ (j := 0) rfl).2)).hf, (hp0.kept (km0 hk0 H.k hk9 (H.b.at_ (j := 0) rfl).2)).hc, (hp0.kept (km0 hk0 H.k hk9 (H.b.at_ (j := 0) rfl).2)).hp⟩), ⟨hM.client, hM.willTopic, hM.willLoad, hM.user, hM.pass, hM.topic, hM.load, hM.codes, hM.nf, hM.np, hM.nw, hM.tf, hM.tp, hM.tw, hM.qos, hM.id, hM.keep, hM.wq, hM.code⟩, hcn⟩
  refine wp_seq_k (fun K27 hK27 => gx_region ?_)
  refine zb (rn_eqlN (i := k) (j := 7)) ?_; intro A F
  refine zd ?_; intro A F
  refine wpList_nil (hK27 _ _ ?_)
  refine zc (fun hb28 => ?_) (fun hb28 => ?_)
  ·skip
   refine gx_region ?_
   iterate 4 (refine zd ?_; intro A F)
   let P29 : Pk := { q with present := !q.present }
   refine zs [_] ((Pk.cells P29 s)) ?_; intro W H9 hk
   clear H hk; have H := H9; clear H9
   refine wpList_nil ?_
   exact hK4 _ _ ⟨P29, s, ((F.nil.cons (F.g 6 _ rfl)).cons (F.g 3 _ rfl)), H, (fun W9 hk9 => ⟨(hp0.kept (km0 hk0 H.k hk9 (H.b.at_ (j := 0) rfl).2)).hw, (hp0.kept (km0 hk0 H.k hk9 (H.b.at_ (j := 0) rfl).2)).hf, (hp0.kept (km0 hk0 H.k hk9 (H.b.at_ (j := 0) rfl).2)).hc, (hp0.kept (km0 hk0 H.k hk9 (H.b.at_ (j := 0) rfl).2)).hp⟩), ⟨hM.client, hM.willTopic, hM.willLoad, hM.user, hM.pass, hM.topic, hM.load, hM.codes, hM.nf, hM.np, hM.nw, hM.tf, hM.tp, hM.tw, hM.qos, hM.id, hM.keep, hM.wq, hM.code⟩, hcn⟩
  refine wp_seq_k (fun K30 hK30 => gx_region ?_)
  refine zb (rn_eqlN (i := k) (j := 8)) ?_; intro A F
  refine zd ?_; intro A F
  refine wpList_nil (hK30 _ _ ?_)
  refine zc (fun hb31 => ?_) (fun hb31 => ?_)
  ·skip
   refine gx_region ?_
   iterate 2 (refine zd ?_; intro A F)
   let P32 : Pk := { q with code := n }
   refine zs [_] ((Pk.cells P32 s)) ?_; intro W H9 hk
   clear H hk; have H := H9; clear H9
   refine wpList_nil ?_
   exact hK4 _ _ ⟨P32, s, ((F.nil.cons (F.g 6 _ rfl)).cons (F.g 3 _ rfl)), H, (fun W9 hk9 => ⟨(hp0.kept (km0 hk0 H.k hk9 (H.b.at_ (j := 0) rfl).2)).hw, (hp0.kept (km0 hk0 H.k hk9 (H.b.at_ (j := 0) rfl).2)).hf, (hp0.kept (km0 hk0 H.k hk9 (H.b.at_ (j := 0) rfl).2)).hc, (hp0.kept (km0 hk0 H.k hk9 (H.b.at_ (j := 0) rfl).2)).hp⟩), ⟨hM.client, hM.willTopic, hM.willLoad, hM.user, hM.pass, hM.topic, hM.load, hM.codes, hM.nf, hM.np, hM.nw, hM.tf, hM.tp, hM.tw, hM.qos, hM.id, hM.keep, hM.wq, (hn)⟩, hcn⟩
  refine wp_seq_k (fun K33 hK33 => gx_region ?_)
  refine zb (rn_eqlN (i := k) (j := 9)) ?_; intro A F
  refine zd ?_; intro A F
  refine wpList_nil (hK33 _ _ ?_)
  refine zc (fun hb34 => ?_) (fun hb34 => ?_)
  ·skip
   refine gx_region ?_
   refine hz_bs (c := #[.string ⟨#[]⟩, .string ⟨#[97, 47, 35]⟩, .string ⟨#[97]⟩, .string ⟨#[97, 0]⟩]) (t := 9) (m := 4) F H rfl (ex_buildSlice rfl (gx_p1 gx_evc (gx_p1 gx_evc (gx_p1 gx_evc (gx_p1 gx_evc gx_p0)))) (by kernel_rfl)) ?_; clear F A; intro b35 W A hk hN H9 F; clear H; have H := H9; clear H9
   clear hk hN
   refine zd ?_; intro A F
   refine hz_do F rfl (ex_conv rfl (F.e rfl) (cv8_any _ _ (by omega) (by omega))) ?_; intro A F
   refine zb (rn_remN (i := n) (j := 4) (by decide)) ?_; intro A F
   refine hz_do (v := (.pointer (some ⟨b35, 0 + n % 4 * 1, none⟩))) F rfl (ex_idxaddr rfl (F.e rfl) (F.e rfl) (rn_idx Tryz.underlying93 (gs1_9 _) (by omega))) ?_; intro A F
   refine hz_do (v := (.string ((pick4 ⟨#[]⟩ ⟨#[97, 47, 35]⟩ ⟨#[97]⟩ ⟨#[97, 0]⟩ (n % 4))))) F rfl (ex_load rfl (F.e rfl) (gl_one (ag_9 _) (pick4_at (H.b.at_ (j := 0) rfl).1 (by omega)))) ?_; intro A F
   refine zd ?_; intro A F
   let P36 : Pk := { q with topic := (pick4 ⟨#[]⟩ ⟨#[97, 47, 35]⟩ ⟨#[97]⟩ ⟨#[97, 0]⟩ (n % 4)) }
   refine zs [_, _] ((Pk.cells P36 s)) ?_; intro W H9 hk
   clear H hk; have H := H9; clear H9
   refine wpList_nil ?_
   exact hK4 _ _ ⟨P36, s, ((F.nil.cons (F.g 6 _ rfl)).cons (F.g 3 _ rfl)), H.tl, (fun W9 hk9 => ⟨(hp0.kept (km0 hk0 H.k hk9 (H.b.at_ (j := 1) rfl).2)).hw, (hp0.kept (km0 hk0 H.k hk9 (H.b.at_ (j := 1) rfl).2)).hf, (hp0.kept (km0 hk0 H.k hk9 (H.b.at_ (j := 1) rfl).2)).hc, (hp0.kept (km0 hk0 H.k hk9 (H.b.at_ (j := 1) rfl).2)).hp⟩), ⟨hM.client, hM.willTopic, hM.willLoad, hM.user, hM.pass, (pick4_len (by decide) (by decide) (by decide) (by decide)), hM.load, hM.codes, hM.nf, hM.np, hM.nw, hM.tf, hM.tp, hM.tw, hM.qos, hM.id, hM.keep, hM.wq, hM.code⟩, hcn⟩
  refine wp_seq_k (fun K37 hK37 => gx_region ?_)
  refine zb (rn_eqlN (i := k) (j := 10)) ?_; intro A F
  refine zd ?_; intro A F
  refine wpList_nil (hK37 _ _ ?_)
  refine zc (fun hb38 => ?_) (fun hb38 => ?_)
  ·skip
   refine gx_region ?_
   refine hz_bs (c := #[.string ⟨#[]⟩, .string ⟨#[97]⟩, .string ⟨#[255]⟩, .string ⟨#[98]⟩]) (t := 9) (m := 4) F H rfl (ex_buildSlice rfl (gx_p1 gx_evc (gx_p1 gx_evc (gx_p1 gx_evc (gx_p1 gx_evc gx_p0)))) (by kernel_rfl)) ?_; clear F A; intro b39 W A hk hN H9 F; clear H; have H := H9; clear H9
   clear hk hN
   refine zd ?_; intro A F
   refine hz_do F rfl (ex_conv rfl (F.e rfl) (cv8_any _ _ (by omega) (by omega))) ?_; intro A F
   refine zb (rn_remN (i := n) (j := 4) (by decide)) ?_; intro A F
   refine hz_do (v := (.pointer (some ⟨b39, 0 + n % 4 * 1, none⟩))) F rfl (ex_idxaddr rfl (F.e rfl) (F.e rfl) (rn_idx Tryz.underlying93 (gs1_9 _) (by omega))) ?_; intro A F
   refine hz_do (v := (.string ((pick4 ⟨#[]⟩ ⟨#[97]⟩ ⟨#[255]⟩ ⟨#[98]⟩ (n % 4))))) F rfl (ex_load rfl (F.e rfl) (gl_one (ag_9 _) (pick4_at (H.b.at_ (j := 0) rfl).1 (by omega)))) ?_; intro A F
   refine zd ?_; intro A F
   let P40 : Pk := { q with client := (pick4 ⟨#[]⟩ ⟨#[97]⟩ ⟨#[255]⟩ ⟨#[98]⟩ (n % 4)) }
   refine zs [_, _] ((Pk.cells P40 s)) ?_; intro W H9 hk
   clear H hk; have H := H9; clear H9
   refine wpList_nil ?_
   exact hK4 _ _ ⟨P40, s, ((F.nil.cons (F.g 6 _ rfl)).cons (F.g 3 _ rfl)), H.tl, (fun W9 hk9 => ⟨(hp0.kept (km0 hk0 H.k hk9 (H.b.at_ (j := 1) rfl).2)).hw, (hp0.kept (km0 hk0 H.k hk9 (H.b.at_ (j := 1) rfl).2)).hf, (hp0.kept (km0 hk0 H.k hk9 (H.b.at_ (j := 1) rfl).2)).hc, (hp0.kept (km0 hk0 H.k hk9 (H.b.at_ (j := 1) rfl).2)).hp⟩), ⟨(pick4_len (by decide) (by decide) (by decide) (by decide)), hM.willTopic, hM.willLoad, hM.user, hM.pass, hM.topic, hM.load, hM.codes, hM.nf, hM.np, hM.nw, hM.tf, hM.tp, hM.tw, hM.qos, hM.id, hM.keep, hM.wq, hM.code⟩, hcn⟩
  refine wp_seq_k (fun K41 hK41 => gx_region ?_)
  refine zb (rn_eqlN (i := k) (j := 11)) ?_; intro A F
  refine zd ?_; intro A F
  refine wpList_nil (hK41 _ _ ?_)
  refine zc (fun hb42 => ?_) (fun hb42 => ?_)
  ·skip
   refine wp_seq_k (fun K43 hK43 => gx_region ?_)
   iterate 2 (refine zd ?_; intro A F)
   refine hz_do F rfl (ex_len rfl (gx_l1 (F.e rfl) gx_l0) (rn_lens Tryz.underlying25)) ?_; intro A F
   refine zb (rn_gtrN (i := q.filters.length) (j := 0)) ?_; intro A F
   refine wpList_nil (hK43 _ _ ?_)
   refine zc (fun hb44 => ?_) (fun hb44 => ?_)
   ·skip
    have h0 : 0 < q.filters.length := of_decide_eq_true hb44
    replace F := ((((F.nil.cons (F.g 12 _ rfl)).cons (F.g 6 _ rfl)).cons (F.g 3 _ rfl)).cons (F.g 2 _ rfl))
    refine wp_seq_k (fun K45 hK45 => gx_region ?_)
    refine hz_bs (c := #[]) (t := 85) (m := 0) F H rfl (ex_buildSlice rfl gx_p0 (by kernel_rfl)) ?_; clear F A; intro b46 W A hk hN H9 F; clear H; have H := H9; clear H9
    clear hk hN
    iterate 2 (refine zd ?_; intro A F)
    have hO := own_made (k := 2) (m := 0) H rfl (by decide)
    replace H := H.tl
    obtain ⟨v9, W9, hrun, hOr, hg⟩ := append_filts W w.heap.size b46 s.fa s.fc q.filters hO (hp.kept H.k).hf h0 (by omega) H.size
    have hkS : Kept (Sv (.slice (some ⟨b46, 0, none⟩) 0 0)) W W9 := kept_grown hg
    obtain ⟨a9, c9, hv9⟩ := own_slice hOr; subst hv9
    refine hz_do F rfl (ex_builtin rfl (gx_l1 (F.e rfl) (gx_l1 (F.e rfl) gx_l0)) (fun cs => by simp only [builtin]; exact gx_val hrun)) ?_; intro A F
    replace H := Hp.grown H hO hkS (fa1 (sv_type hO (H.b.at_ (j := 0) rfl).1 (show 28 ≠ 85 by decide)) (fa1 (sv_type hO (H.b.at_ (j := 1) rfl).1 (show 28 ≠ 85 by decide)) fa0)); clear hrun hg hkS hO; generalize W9 = W at *
    refine zd ?_; intro A F
    refine wpList_nil (hK45 _ _ ?_)
    refine wp_seq_k (fun K48 hK48 => gx_region ?_)
    iterate 2 (refine zd ?_; intro A F)
    obtain ⟨g9, hg9⟩ := own_some hOr h0; subst hg9
    refine hz_do (v := (.pointer (some ⟨g9, 0 + 0 * 2, none⟩))) F rfl (ex_idxaddr rfl (F.e rfl) gx_evc (rn_idx (i := 0) Tryz.underlying25 (gs_85 _) h0)) ?_; intro A F
    refine hz_do (v := (.pointer (some ⟨g9, 1, none⟩))) F rfl (ex_faddr rfl (F.e rfl) (fa_85_1 _ _ _)) ?_; intro A F
    obtain ⟨W9, hr, hOx, hk⟩ := own_store (T := 5) (i := 1) (v := .int .u8 (n : Int)) hOr (gs1_5 _) rfl (show 1 < q.filters.length * 2 by omega)
    refine hz_st (ex_store rfl (F.e rfl) (F.e rfl) hr) ?_; clear hr
    replace H := Hp.grown H hOr hk (fa1 (sv_type hOr (H.b.at_ (j := 0) rfl).1 (show 28 ≠ 85 by decide)) (fa1 (sv_type hOr (H.b.at_ (j := 1) rfl).1 (show 28 ≠ 85 by decide)) fa0)); clear hOr hk
    replace hOx : W9.ownsRow w.heap.size 85 2 (.slice (some ⟨g9, 0, none⟩) (setOpt q.filters n).length c9) (setOpt q.filters n).length (FC (setOpt q.filters n)) := by rw [setOpt_len, ← setOpt_set q.filters n h0]; exact hOx
    have hOr := hOx; clear hOx; generalize W9 = W at *
    refine wpList_nil (hK48 _ _ ?_)
    refine gx_region ?_
    refine hz_do (v := (.slice ((some ⟨g9, 0, none⟩)) ((setOpt q.filters n).length) c9)) F rfl (ex_move rfl ((F.e rfl).trans (congrArg (fun m : Nat => Value.slice (some ⟨g9, 0, none⟩) m c9) (setOpt_len q.filters n).symm))) ?_; intro A F
    refine zd ?_; intro A F
    let s49 : Sl := { s with fa := (some ⟨g9, 0, none⟩), fc := c9 }
    let P50 : Pk := { q with filters := (setOpt q.filters n) }
    refine zs [_] ((Pk.cells P50 s49)) ?_; intro W H9 hk
    replace hOr := og_far hOr (H.b.at_ (j := 1) rfl).1 (show 28 ≠ 85 by decide) hk
    clear H hk; have H := H9; clear H9
    refine wpList_nil ?_
    exact hK4 _ _ ⟨P50, s49, ((F.nil.cons (F.g 6 _ rfl)).cons (F.g 3 _ rfl)), H, (fun W9 hk9 => ⟨(hp0.kept (km0 hk0 H.k hk9 (H.b.at_ (j := 0) rfl).2)).hw, (own_row (og_mid hOr (H.b.at_ (j := 0) rfl).1 (show 28 ≠ 85 by decide) hk9)).1, (hp0.kept (km0 hk0 H.k hk9 (H.b.at_ (j := 0) rfl).2)).hc, (hp0.kept (km0 hk0 H.k hk9 (H.b.at_ (j := 0) rfl).2)).hp⟩), ⟨hM.client, hM.willTopic, hM.willLoad, hM.user, hM.pass, hM.topic, hM.load, hM.codes, (by show (setOpt q.filters n).length ≤ 10; rw [setOpt_len]; exact hM.nf), hM.np, hM.nw, (setOpt_mem hn hM.tf), hM.tp, hM.tw, hM.qos, hM.id, hM.keep, hM.wq, hM.code⟩, hcn⟩
   replace F := ((((F.nil.cons (F.g 12 _ rfl)).cons (F.g 6 _ rfl)).cons (F.g 3 _ rfl)).cons (F.g 2 _ rfl))
   refine wp_skip ?_
   exact hK4 _ _ ⟨q, s, ((F.nil.cons (F.g 6 _ rfl)).cons (F.g 3 _ rfl)), H, (fun W9 hk9 => ⟨(hp0.kept (km0 hk0 H.k hk9 (H.b.at_ (j := 0) rfl).2)).hw, (hp0.kept (km0 hk0 H.k hk9 (H.b.at_ (j := 0) rfl).2)).hf, (hp0.kept (km0 hk0 H.k hk9 (H.b.at_ (j := 0) rfl).2)).hc, (hp0.kept (km0 hk0 H.k hk9 (H.b.at_ (j := 0) rfl).2)).hp⟩), ⟨hM.client, hM.willTopic, hM.willLoad, hM.user, hM.pass, hM.topic, hM.load, hM.codes, hM.nf, hM.np, hM.nw, hM.tf, hM.tp, hM.tw, hM.qos, hM.id, hM.keep, hM.wq, hM.code⟩, hcn⟩
  refine wp_seq_k (fun K51 hK51 => gx_region ?_)
  refine zb (rn_eqlN (i := k) (j := 12)) ?_; intro A F
  refine zd ?_; intro A F
  refine wpList_nil (hK51 _ _ ?_)
  refine zc (fun hb52 => ?_) (fun hb52 => ?_)
  ·skip
   replace F := ((((F.nil.cons (F.g 12 _ rfl)).cons (F.g 6 _ rfl)).cons (F.g 3 _ rfl)).cons (F.g 2 _ rfl))
   refine wp_seq_k (fun K53 hK53 => gx_region ?_)
   iterate 2 (refine zd ?_; intro A F)
   refine hz_do F rfl (ex_len rfl (gx_l1 (F.e rfl) gx_l0) (rn_lens Tryz.underlying26)) ?_; intro A F
   refine zb (rn_gtrN (i := q.codes.length) (j := 0)) ?_; intro A F
   refine wpList_nil (hK53 _ _ ?_)
   refine zc (fun hb54 => ?_) (fun hb54 => ?_)
   ·skip
    have h0 : 0 < q.codes.length := of_decide_eq_true hb54
    refine wp_seq_k (fun K55 hK55 => gx_region ?_)
    refine hz_bs (c := #[]) (t := 5) (m := 0) F H rfl (ex_buildSlice rfl gx_p0 (by kernel_rfl)) ?_; clear F A; intro b56 W A hk hN H9 F; clear H; have H := H9; clear H9
    clear hk hN
    iterate 2 (refine zd ?_; intro A F)
    have hO := own_made (k := 1) (m := 0) H rfl (by decide)
    replace H := H.tl
    obtain ⟨v9, W9, hrun, hOr, hg, _⟩ := append_bytes W w.heap.size b56 s.ca s.cc q.codes hO (hp.kept H.k).hc hcn (by omega) H.size
    have hkS : Kept (Sv (.slice (some ⟨b56, 0, none⟩) 0 0)) W W9 := kept_grown hg
    obtain ⟨a9, c9, hv9⟩ := own_slice hOr; subst hv9
    refine hz_do F rfl (ex_builtin rfl (gx_l1 (F.e rfl) (gx_l1 (F.e rfl) gx_l0)) (fun cs => by simp only [builtin]; exact gx_val hrun)) ?_; intro A F
    replace H := Hp.grown H hO hkS (fa1 (sv_type hO (H.b.at_ (j := 0) rfl).1 (show 28 ≠ 5 by decide)) (fa1 (sv_type hO (H.b.at_ (j := 1) rfl).1 (show 28 ≠ 5 by decide)) fa0)); clear hrun hg hkS hO; generalize W9 = W at *
    refine zd ?_; intro A F
    refine wpList_nil (hK55 _ _ ?_)
    refine wp_seq_k (fun K58 hK58 => gx_region ?_)
    iterate 2 (refine zd ?_; intro A F)
    obtain ⟨g9, hg9⟩ := own_some hOr h0; subst hg9
    refine hz_do (v := (.pointer (some ⟨g9, 0 + 0 * 1, none⟩))) F rfl (ex_idxaddr rfl (F.e rfl) gx_evc (rn_idx (i := 0) Tryz.underlying26 (gs1_5 _) h0)) ?_; intro A F
    obtain ⟨W9, hr, hOx, hk⟩ := own_store (T := 5) (i := 0) (v := .int .u8 (n : Int)) hOr (gs1_5 _) rfl (show 0 < q.codes.length * 1 by omega)
    refine hz_st (ex_store rfl (F.e rfl) (F.e rfl) hr) ?_; clear hr
    replace H := Hp.grown H hOr hk (fa1 (sv_type hOr (H.b.at_ (j := 0) rfl).1 (show 28 ≠ 5 by decide)) (fa1 (sv_type hOr (H.b.at_ (j := 1) rfl).1 (show 28 ≠ 5 by decide)) fa0)); clear hOr hk
    replace hOx : W9.ownsRow w.heap.size 5 1 (.slice (some ⟨g9, 0, none⟩) (q.codes.set 0 (UInt8.ofNat n)).length c9) (q.codes.set 0 (UInt8.ofNat n)).length (B8 (q.codes.set 0 (UInt8.ofNat n))) := by rw [List.length_set, ← setC_set q.codes n hn]; exact hOx
    have hOr := hOx; clear hOx; generalize W9 = W at *
    refine wpList_nil (hK58 _ _ ?_)
    refine gx_region ?_
    refine hz_do (v := (.slice ((some ⟨g9, 0, none⟩)) ((q.codes.set 0 (UInt8.ofNat n)).length) c9)) F rfl (ex_move rfl ((F.e rfl).trans (congrArg (fun m : Nat => Value.slice (some ⟨g9, 0, none⟩) m c9) List.length_set.symm))) ?_; intro A F
    refine zd ?_; intro A F
    let s59 : Sl := { s with ca := (some ⟨g9, 0, none⟩), cc := c9 }
    let P60 : Pk := { q with codes := (q.codes.set 0 (UInt8.ofNat n)) }
    refine zs [_] ((Pk.cells P60 s59)) ?_; intro W H9 hk
    replace hOr := og_far hOr (H.b.at_ (j := 1) rfl).1 (show 28 ≠ 5 by decide) hk
    clear H hk; have H := H9; clear H9
    refine wpList_nil ?_
    exact hK4 _ _ ⟨P60, s59, ((F.nil.cons (F.g 6 _ rfl)).cons (F.g 3 _ rfl)), H, (fun W9 hk9 => ⟨(hp0.kept (km0 hk0 H.k hk9 (H.b.at_ (j := 0) rfl).2)).hw, (hp0.kept (km0 hk0 H.k hk9 (H.b.at_ (j := 0) rfl).2)).hf, (own_row (og_mid hOr (H.b.at_ (j := 0) rfl).1 (show 28 ≠ 5 by decide) hk9)).1, (hp0.kept (km0 hk0 H.k hk9 (H.b.at_ (j := 0) rfl).2)).hp⟩), ⟨hM.client, hM.willTopic, hM.willLoad, hM.user, hM.pass, hM.topic, hM.load, (by show ((q.codes.set 0 (UInt8.ofNat n))).length ≤ 41; simp; omega), hM.nf, hM.np, hM.nw, hM.tf, hM.tp, hM.tw, hM.qos, hM.id, hM.keep, hM.wq, hM.code⟩, (own_row hOr).2⟩
   refine wp_skip ?_
   exact hK4 _ _ ⟨q, s, ((F.nil.cons (F.g 6 _ rfl)).cons (F.g 3 _ rfl)), H, (fun W9 hk9 => ⟨(hp0.kept (km0 hk0 H.k hk9 (H.b.at_ (j := 0) rfl).2)).hw, (hp0.kept (km0 hk0 H.k hk9 (H.b.at_ (j := 0) rfl).2)).hf, (hp0.kept (km0 hk0 H.k hk9 (H.b.at_ (j := 0) rfl).2)).hc, (hp0.kept (km0 hk0 H.k hk9 (H.b.at_ (j := 0) rfl).2)).hp⟩), ⟨hM.client, hM.willTopic, hM.willLoad, hM.user, hM.pass, hM.topic, hM.load, hM.codes, hM.nf, hM.np, hM.nw, hM.tf, hM.tp, hM.tw, hM.qos, hM.id, hM.keep, hM.wq, hM.code⟩, hcn⟩
  replace F := ((((F.nil.cons (F.g 12 _ rfl)).cons (F.g 6 _ rfl)).cons (F.g 3 _ rfl)).cons (F.g 2 _ rfl))
  refine wp_seq_k (fun K61 hK61 => gx_region ?_)
  refine zb (rn_eqlN (i := k) (j := 13)) ?_; intro A F
  refine zd ?_; intro A F
  refine wpList_nil (hK61 _ _ ?_)
  refine zc (fun hb62 => ?_) (fun hb62 => ?_)
  ·skip
   refine gx_region ?_
   refine hz_bs (c := #[]) (t := 5) (m := 0) F H rfl (ex_buildSlice rfl gx_p0 (by kernel_rfl)) ?_; clear F A; intro b63 W A hk hN H9 F; clear H; have H := H9; clear H9
   clear hk hN
   iterate 2 (refine zd ?_; intro A F)
   have hO := own_made (k := 1) (m := 0) H rfl (by decide)
   replace H := H.tl
   obtain ⟨v9, W9, hrun, hOr, hg, _⟩ := append_bytes W w.heap.size b63 s.ca s.cc q.codes hO (hp.kept H.k).hc hcn (by omega) H.size
   have hkS : Kept (Sv (.slice (some ⟨b63, 0, none⟩) 0 0)) W W9 := kept_grown hg
   obtain ⟨a9, c9, hv9⟩ := own_slice hOr; subst hv9
   refine hz_do F rfl (ex_builtin rfl (gx_l1 (F.e rfl) (gx_l1 (F.e rfl) gx_l0)) (fun cs => by simp only [builtin]; exact gx_val hrun)) ?_; intro A F
   replace H := Hp.grown H hO hkS (fa1 (sv_type hO (H.b.at_ (j := 0) rfl).1 (show 28 ≠ 5 by decide)) (fa1 (sv_type hO (H.b.at_ (j := 1) rfl).1 (show 28 ≠ 5 by decide)) fa0)); clear hrun hg hkS hO; generalize W9 = W at *
   refine zd ?_; intro A F
   refine hz_bs (c := #[.int .u8 (n : Int)]) (t := 5) (m := 1) F H rfl (ex_buildSlice rfl (gx_p1 (F.e rfl) gx_p0) (by kernel_rfl)) ?_; clear F A; intro b65 W A hk hN H9 F; clear H; have H := H9; clear H9
   have hne_hOr_b65 := og_lt hOr hN
   replace hOr := og_kept hOr hk
   clear hk hN
   obtain ⟨i0, hi, hz0, hz1, hz2⟩ := info_parts info_u8
   obtain ⟨v9, W9, hrun, hO9, hg, _⟩ := run_append_own (P := Tryz.prog) _ w.heap.size 26 26 5 i0 _ 1 1 Tryz.underlying26 hi hz0 hz1 hz2 rfl (by decide) _ _ _ hOr ⟨b65, 0, none⟩ 1 1 [.int .u8 (n : Int)] rfl (blk_news (H.b.at_ (j := 0) rfl).1) (one_all rfl) (by unfold maxLen; omega) (by omega) H.size
   rw [b8_byte _ hn, ← B8_append, show q.codes.length + 1 = (q.codes ++ [UInt8.ofNat n]).length from by simp] at hO9
   have hkS := kept_grown hg; obtain ⟨a66, c66, hv9⟩ := own_slice hO9; subst hv9
   refine hz_do F rfl (ex_builtin rfl (gx_l1 (F.e rfl) (gx_l1 (F.e rfl) gx_l0)) (fun cs => by simp only [builtin]; exact gx_val hrun)) ?_; intro A F
   replace H := Hp.grown H hOr hkS (fa1 (sv_lt hne_hOr_b65) (fa1 (sv_type hOr (H.b.at_ (j := 1) rfl).1 (show 28 ≠ 5 by decide)) (fa1 (sv_type hOr (H.b.at_ (j := 2) rfl).1 (show 28 ≠ 5 by decide)) fa0)))
   clear hrun hg hkS; clear hOr; have hOr := hO9; clear hO9; generalize W9 = W at *
   refine zd ?_; intro A F
   let s67 : Sl := { s with ca := a66, cc := c66 }
   let P68 : Pk := { q with codes := (q.codes ++ [UInt8.ofNat n]) }
   refine zs [_, _] ((Pk.cells P68 s67)) ?_; intro W H9 hk
   replace hOr := og_far hOr (H.b.at_ (j := 2) rfl).1 (show 28 ≠ 5 by decide) hk
   clear H hk; have H := H9; clear H9
   refine wpList_nil ?_
   exact hK4 _ _ ⟨P68, s67, ((F.nil.cons (F.g 6 _ rfl)).cons (F.g 3 _ rfl)), H.tl, (fun W9 hk9 => ⟨(hp0.kept (km0 hk0 H.k hk9 (H.b.at_ (j := 1) rfl).2)).hw, (hp0.kept (km0 hk0 H.k hk9 (H.b.at_ (j := 1) rfl).2)).hf, (own_row (og_mid hOr (H.b.at_ (j := 1) rfl).1 (show 28 ≠ 5 by decide) hk9)).1, (hp0.kept (km0 hk0 H.k hk9 (H.b.at_ (j := 1) rfl).2)).hp⟩), ⟨hM.client, hM.willTopic, hM.willLoad, hM.user, hM.pass, hM.topic, hM.load, (by show ((q.codes ++ [UInt8.ofNat n])).length ≤ 41; simp; omega), hM.nf, hM.np, hM.nw, hM.tf, hM.tp, hM.tw, hM.qos, hM.id, hM.keep, hM.wq, hM.code⟩, (own_row hOr).2⟩
  refine wp_skip ?_
  exact hK4 _ _ ⟨q, s, ((F.nil.cons (F.g 6 _ rfl)).cons (F.g 3 _ rfl)), H, (fun W9 hk9 => ⟨(hp0.kept (km0 hk0 H.k hk9 (H.b.at_ (j := 0) rfl).2)).hw, (hp0.kept (km0 hk0 H.k hk9 (H.b.at_ (j := 0) rfl).2)).hf, (hp0.kept (km0 hk0 H.k hk9 (H.b.at_ (j := 0) rfl).2)).hc, (hp0.kept (km0 hk0 H.k hk9 (H.b.at_ (j := 0) rfl).2)).hp⟩), ⟨hM.client, hM.willTopic, hM.willLoad, hM.user, hM.pass, hM.topic, hM.load, hM.codes, hM.nf, hM.np, hM.nw, hM.tf, hM.tp, hM.tw, hM.qos, hM.id, hM.keep, hM.wq, hM.code⟩, hcn⟩
 clear F H; obtain ⟨q2, s2, F, H, hAt, hF2, hcn2⟩ := hM
 refine wp_seq_k (fun K69 hK69 => gx_region ?_)
 refine hz_do F rfl (ex_load rfl (F.e rfl) (gl_agg ((Pk.cells q2 s2)) rfl (ga_28 _) (gs_28 _) (fun i => H.cs 1 rfl i))) ?_; intro A F
 obtain ⟨W9, hr, hB, hk⟩ := gx_storeAgg (P := Tryz.prog) (S := 28) (c := (Pk.cells q2 s2)) _ (H.b.at_ (j := 0) rfl).1 (gs_28 _) rfl (pk_one _ _)
 refine hz_st (ex_store rfl (F.e rfl) (F.e rfl) hr) ?_; clear hr; replace H : Hp _ _ [_, _] := Hp.turn [] H hk hB; have hAt := (fun W9 hk9 => hAt W9 (km1 hk hk9) : ∀ W9, Kept _ _ W9 → Pk.At q2 s2 W9); clear hk hB
 refine wpList_nil (hK69 _ _ ?_)
 refine gx_ret ?_
 refine (show bodyPost _ Tryz.f19 RR Exit.ret _ _ from ?_)
 exact bodyPost_ret (fn := Tryz.f19) (gx_resc rfl (F.g 6 _ rfl) (gl_agg ((Pk.cells q2 s2)) rfl (ga_28 _) (gs_28 _) (fun i => H.cs 0 rfl i))) F.d (⟨_, _, rfl, hAt, hF2, hcn2, H.k⟩)
end Go.Proofs.YtddolflgnfhfmaaGreatDoor
