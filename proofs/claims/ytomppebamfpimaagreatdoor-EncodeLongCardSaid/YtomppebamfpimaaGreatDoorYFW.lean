import Derived.Test.YtomppebamfpimaaGreatDoorYFG
import Derived.Test.YtomppebamfpimaaGreatDoorYF8
import Derived.Test.YtomppebamfpimaaGreatDoorYF3
import Derived.Test.YtomppebamfpimaaGreatDoorYFV
import Derived.Test.YtomppebamfpimaaGreatDoorYFB
import Derived.Test.YtomppebamfpimaaGreatDoorYFI
import Derived.Test.YtomppebamfpimaaGreatDoorYFK
namespace Go.Proofs.YtomppebamfpimaaGreatDoor
open Go.RowKit
set_option linter.unusedVariables false
set_option linter.unusedSimpArgs false
set_option maxRecDepth 100000
def by1 (n : Nat) : List UInt8 := [byteOf (n : Int)]
def by2 (n : Nat) : List UInt8 := [byteOf ((n : Int) / 256), byteOf ((n : Int) % 256)]
def bitN (b : Bool) (n : Nat) : Nat := if b then n else 0
def mqtt : ByteArray := ⟨#[77, 81, 84, 84]⟩
def flagsN (p : Pk) : Nat := if p.kind = 3 then bitN p.retain 1 + 2 * p.qos + bitN p.dup 8 else if p.kind = 6 ∨ p.kind = 8 ∨ p.kind = 10 then 2 else 0
def conFlN (p : Pk) : Nat := bitN p.clean 2 + bitN p.hasWill 4 + 8 * p.willQoS + bitN p.willRetain 32 + bitN p.hasPass 64 + bitN p.hasUser 128
def secB (v : Int) (L : List Pr) : List UInt8 := if v = 4 then [] else putL [] L
def shortB (v : Int) (p : Pk) : List UInt8 := if v = 4 ∨ (p.code = 0 ∧ p.props.length = 0) then [] else if p.props.length = 0 then by1 p.code else by1 p.code ++ secB v p.props
def filtB (k : Int) : List Fi → List UInt8
 | [] => []
 | f :: l => binBy f.text ++ (if k = 8 then by1 f.opt else []) ++ filtB k l
def connB (v : Int) (p : Pk) : List UInt8 :=
 binBy mqtt ++ by1 v.toNat ++ by1 (conFlN p) ++ by2 p.keep ++ secB v p.props ++ binBy p.client ++ (if p.hasWill = true then secB v p.willProps ++ binBy p.willTopic ++ binBy p.willLoad else []) ++ (if p.hasUser = true then binBy p.user else []) ++ (if p.hasPass = true then binBy p.pass else [])
def publB (v : Int) (p : Pk) : List UInt8 := binBy p.topic ++ (if p.qos = 0 then [] else by2 p.id) ++ secB v p.props ++ p.load.data.toList
def behB (v : Int) (p : Pk) : List UInt8 :=
 if p.kind = 1 then connB v p
 else if p.kind = 2 then by1 (bitN p.present 1) ++ by1 p.code ++ secB v p.props
 else if p.kind = 3 then publB v p
 else if p.kind = 4 ∨ p.kind = 5 ∨ p.kind = 6 ∨ p.kind = 7 then by2 p.id ++ shortB v p
 else if p.kind = 8 ∨ p.kind = 10 then by2 p.id ++ secB v p.props ++ filtB p.kind p.filters
 else if p.kind = 9 ∨ p.kind = 11 then by2 p.id ++ secB v p.props ++ p.codes
 else if p.kind = 14 ∨ p.kind = 15 then shortB v p
 else []
def encB (v : Int) (p : Pk) : List UInt8 := by1 (16 * p.kind.toNat + flagsN p) ++ varL (behB v p).length ++ behB v p
theorem b1_len (n : Nat) : (by1 n).length = 1 := rfl
theorem b2_len (n : Nat) : (by2 n).length = 2 := rfl
theorem binBy_len (s : ByteArray) : (binBy s).length = 2 + s.size := by
 simp [binBy]; omega
theorem secB_len (v : Int) (L : List Pr) (h : ∀ p ∈ L, p.wf') : (secB v L).length = secN v L := by
 unfold secB secN putL sizeR
 split
 ·rfl
 ·split
  ·rename_i n hn
   have := (lenGo_some L 0 n h hn (by omega)).2.1
   simp [addVar]
   omega
  ·rfl
theorem shortB_len (v : Int) (p : Pk) (h : ∀ x ∈ p.props, x.wf') : (shortB v p).length = shortN v p := by
 unfold shortB shortN
 split
 ·rfl
 ·split
  ·rfl
  ·simp [b1_len, secB_len v p.props h]
theorem filtB_len (k : Int) : ∀ L : List Fi, (filtB k L).length = filtersN k L
 | [] => rfl
 | f :: l => by
  simp only [filtB, filtersN, List.length_append, binBy_len, filtB_len k l]
  split <;> simp [b1_len]
theorem connB_len (v : Int) (p : Pk) (h : ∀ x ∈ p.props, x.wf') (h2 : ∀ x ∈ p.willProps, x.wf') : (connB v p).length = connectN v p := by
 unfold connB connectN
 simp only [List.length_append, b1_len, b2_len, binBy_len, secB_len v p.props h]
 have e : mqtt.size = 4 := rfl
 rw [e]
 cases p.hasWill <;> cases p.hasUser <;> cases p.hasPass <;> simp [binBy_len, secB_len v p.willProps h2] <;> omega
theorem behB_len (v : Int) (p : Pk) (h : Wf p) : (behB v p).length = restN v p := by
 have h1 := h.p
 have h2 := h.w
 unfold behB restN
 by_cases k1 : p.kind = 1
 ·rw [if_pos k1, if_pos k1]; exact connB_len v p h1 h2
 rw [if_neg k1, if_neg k1]
 by_cases k2 : p.kind = 2
 ·rw [if_pos k2, if_pos k2]; simp only [List.length_append, b1_len, secB_len v p.props h1]
 rw [if_neg k2, if_neg k2]
 by_cases k3 : p.kind = 3
 ·rw [if_pos k3, if_pos k3]
  unfold publB
  simp only [List.length_append, binBy_len, secB_len v p.props h1]
  have e : p.load.data.toList.length = p.load.size := by rw [Array.length_toList]; rfl
  rw [e]
  by_cases q : p.qos = 0
  ·rw [if_pos q, if_pos q]; rfl
  ·rw [if_neg q, if_neg q, b2_len]
 rw [if_neg k3, if_neg k3]
 by_cases k4 : p.kind = 4 ∨ p.kind = 5 ∨ p.kind = 6 ∨ p.kind = 7
 ·rw [if_pos k4, if_pos k4]; simp only [List.length_append, b2_len, shortB_len v p h1]
 rw [if_neg k4, if_neg k4]
 by_cases k8 : p.kind = 8 ∨ p.kind = 10
 ·rw [if_pos k8, if_pos k8]; simp only [List.length_append, b2_len, secB_len v p.props h1, filtB_len]
 rw [if_neg k8, if_neg k8]
 by_cases k9 : p.kind = 9 ∨ p.kind = 11
 ·rw [if_pos k9, if_pos k9]; simp only [List.length_append, b2_len, secB_len v p.props h1]
 rw [if_neg k9, if_neg k9]
 by_cases k14 : p.kind = 14 ∨ p.kind = 15
 ·rw [if_pos k14, if_pos k14]; exact shortB_len v p h1
 rw [if_neg k14, if_neg k14]; rfl
theorem nameB_le {s : ByteArray} (h : nameB s = true) : s.size ≤ 65535 := by
 unfold nameB at h
 simp only [Bool.and_eq_true] at h
 exact okText_size h.1
structure Ri (v : Int) (p : Pk) : Prop where
 hv : v = 4 ∨ v = 5
 k1 : 1 ≤ p.kind
 k2 : p.kind ≤ 15
 bare : p = bareP p
 qos : p.qos ≤ 2
 wq : p.willQoS ≤ 2
 client : p.client.size ≤ 65535
 user : p.user.size ≤ 65535
 pass : p.pass.size ≤ 65535
 willTopic : p.willTopic.size ≤ 65535
 willLoad : p.willLoad.size ≤ 65535
 topic : p.topic.size ≤ 65535
 filt : ∀ f ∈ p.filters, f.text.size ≤ 65535
 nf : p.filters.length ≤ 1024
 nc : p.codes.length ≤ 1024
 rest : restN v p ≤ 268435455
theorem zk_of {p : Pk} (hb : p = bareP p) (h1 : p.kind ≠ 1) : p.willQoS = 0 ∧ p.client = ⟨#[]⟩ ∧ p.user = ⟨#[]⟩ ∧ p.pass = ⟨#[]⟩ ∧ p.willTopic = ⟨#[]⟩ ∧ p.willLoad = ⟨#[]⟩ := by
 rw [hb]
 unfold bareP
 rw [if_neg h1]
 repeat' split
 all_goals exact ⟨rfl, rfl, rfl, rfl, rfl, rfl⟩
theorem zk_pub {p : Pk} (hb : p = bareP p) (h1 : p.kind ≠ 3) : p.qos = 0 ∧ p.topic = ⟨#[]⟩ := by
 rw [hb]
 unfold bareP
 repeat' split
 all_goals first | exact ⟨rfl, rfl⟩ | contradiction
theorem zk_filt {p : Pk} (hb : p = bareP p) (h1 : ¬ (p.kind = 8 ∨ p.kind = 10)) : p.filters = [] := by
 rw [hb]
 unfold bareP
 repeat' split
 all_goals first | rfl | contradiction
theorem zk_cod {p : Pk} (hb : p = bareP p) (h1 : ¬ (p.kind = 9 ∨ p.kind = 11)) : p.codes = [] := by
 rw [hb]
 unfold bareP
 repeat' split
 all_goals first | rfl | contradiction
theorem right_ri {v : Int} {p : Pk} (h : rightP v p = true) : Ri v p := by
 unfold rightP at h
 simp only [Bool.and_eq_true, decide_eq_true_eq] at h
 obtain ⟨hE, hb, -, hF, hr⟩ := h
 obtain ⟨hv, hk1, hk2⟩ := exists_v hE
 have e0 : (⟨#[]⟩ : ByteArray).size = 0 := rfl
 have hc : p.willQoS ≤ 2 ∧ p.client.size ≤ 65535 ∧ p.user.size ≤ 65535 ∧ p.pass.size ≤ 65535 ∧ p.willTopic.size ≤ 65535 ∧ p.willLoad.size ≤ 65535 := by
  by_cases h1 : p.kind = 1
  ·unfold fieldsB at hF
   rw [if_pos h1] at hF
   unfold connectB at hF
   simp only [Bool.and_eq_true, decide_eq_true_eq] at hF
   obtain ⟨q1, q2, q3, q4, -⟩ := hF
   refine ⟨?_, okText_size q1, okText_size q2, q3, ?_⟩
   ·cases hw : p.hasWill with
    | true => rw [hw] at q4; simp [willOkB] at q4; exact q4.1
    | false =>
     have : p.willQoS = (bareP p).willQoS := congrArg Pk.willQoS hb
     rw [this]; unfold bareP; rw [if_pos h1, hw]; simp
   ·cases hw : p.hasWill with
    | true => rw [hw] at q4; simp [willOkB] at q4; exact ⟨nameB_le q4.2.1, q4.2.2⟩
    | false =>
     have h8 : p.willTopic = (bareP p).willTopic := congrArg Pk.willTopic hb
     have h9 : p.willLoad = (bareP p).willLoad := congrArg Pk.willLoad hb
     rw [h8, h9]; unfold bareP; rw [if_pos h1, hw]; simp [e0]
  ·obtain ⟨a, b, c, d, e, f⟩ := zk_of hb h1
   rw [a, b, c, d, e, f]
   simp [e0]
 have hp : p.qos ≤ 2 ∧ p.topic.size ≤ 65535 := by
  by_cases h1 : p.kind = 3
  ·unfold fieldsB at hF
   rw [if_neg (by omega), if_neg (by omega), if_pos h1] at hF
   unfold publishB at hF
   split at hF
   ·cases hF
   ·rename_i hq
    refine ⟨by omega, ?_⟩
    split at hF
    ·cases hF
    ·split at hF
     ·rename_i h5; omega
     ·exact nameB_le hF
  ·obtain ⟨a, b⟩ := zk_pub hb h1
   rw [a, b]
   simp [e0]
 have hf : (∀ f ∈ p.filters, f.text.size ≤ 65535) ∧ p.filters.length ≤ 1024 := by
  by_cases h1 : p.kind = 8 ∨ p.kind = 10
  ·unfold fieldsB at hF
   rw [if_neg (by omega), if_neg (by omega), if_neg (by omega), if_neg (by omega), if_pos h1] at hF
   unfold filtersB at hF
   simp only [Bool.and_eq_true, decide_eq_true_eq, List.all_eq_true] at hF
   exact ⟨fun f hf => filterB_size (hF.2.2.2 f hf).1, hF.2.2.1⟩
  ·rw [zk_filt hb h1]
   simp
 have hcd : p.codes.length ≤ 1024 := by
  by_cases h1 : p.kind = 9 ∨ p.kind = 11
  ·unfold fieldsB at hF
   rw [if_neg (by omega), if_neg (by omega), if_neg (by omega), if_neg (by omega), if_neg (by omega), if_pos h1] at hF
   unfold codesB at hF
   simp only [Bool.and_eq_true] at hF
   have hF := hF.2
   split at hF
   ·have := of_decide_eq_true hF; omega
   ·simp only [Bool.and_eq_true, decide_eq_true_eq] at hF
    exact hF.2.1
  ·rw [zk_cod hb h1]
   simp
 exact ⟨hv, hk1, hk2, hb, hp.1, hc.1, hc.2.1, hc.2.2.1, hc.2.2.2.1, hc.2.2.2.2.1, hc.2.2.2.2.2, hp.2, hf.1, hf.2, hcd, hr⟩
theorem flagsN_lt {v : Int} {p : Pk} (h : Ri v p) : flagsN p ≤ 13 := by
 have := h.qos
 unfold flagsN bitN
 repeat' split
 all_goals omega
theorem conFlN_lt {v : Int} {p : Pk} (h : Ri v p) : conFlN p ≤ 246 := by
 have := h.wq
 unfold conFlN bitN
 repeat' split
 all_goals omega
def Fm (w0 w : World) (f : Nat) (v : Int) (k : Nat) (l : List UInt8) : Prop :=
 ∃ a c, Blk w f 90 #[.int .i64 v, .slice a l.length c] ∧ w.ownsRow w0.heap.size 5 1 (.slice a l.length c) l.length (B8 l) ∧ w0.heap.size ≤ f ∧ l.length ≤ k * 1000000000
def Ft (w0 w : World) (f : Nat) : Nat → Prop := fun b => b = f ∨ (w0.heap.size ≤ b ∧ ∃ cs, Blk w b 5 cs)
structure FmK (w0 w : World) (f : Nat) (v : Int) (k : Nat) (l : List UInt8) (W : World) : Prop where
 m : Fm w0 W f v k l
 k : Kept (Ft w0 w f) w W
def FmP (w0 w : World) (f : Nat) (v : Int) (k : Nat) (l : List UInt8) : Value → World → Prop := fun u W => u = .tuple #[] ∧ FmK w0 w f v k l W
section
variable {w0 w W W' : World} {f : Nat} {v : Int} {k k' : Nat} {l l' m : List UInt8} {M : List Bk}
theorem blk_one {w : World} {b : Nat} {t t' : TypeId} {c c' : Array Value} (h : Blk w b t c) (h' : Blk w b t' c') : t = t' := by
 unfold Blk at h h'
 rw [h] at h'
 injection h' with h'
 injection h' with _ h' _
theorem Fm.no (h : Fm w0 W f v k l) (hk : Kept No W W') : Fm w0 W' f v k l := by
 obtain ⟨a, c, hB, hO, hf, hl⟩ := h
 exact ⟨a, c, hB.kept hk (fun q => q), own_keptNo hO hk, hf, hl⟩
theorem FmK.no (h : FmK w0 w f v k l W) (hk : Kept No W W') : FmK w0 w f v k l W' := ⟨h.m.no hk, h.k.then hk (fun _ _ q => q.elim)⟩
theorem Fm.start (h : Fm w0 w f v k l) : FmK w0 w f v k l w := ⟨h, Kept.refl _ _⟩
theorem FmK.is (h : FmK w0 w f v k l W) (e : l = l') (hk : k ≤ k') : FmK w0 w f v k' l' W := by
 subst e
 obtain ⟨⟨a, c, hB, hO, hf, hl⟩, h2⟩ := h
 have hb : k * 1000000000 ≤ k' * 1000000000 := Nat.mul_le_mul hk (Nat.le_refl _)
 exact ⟨⟨a, c, hB, hO, hf, Nat.le_trans hl hb⟩, h2⟩
theorem FmK.step (h : FmK w0 w f v k l W) (h2 : FmK w0 W f v k' l' W') : FmK w0 w f v k' l' W' :=
 ⟨h2.m, h.k.then h2.k (fun i hi hT => by
  rcases hT with rfl | ⟨h3, cs, hB⟩
  ·exact .inl rfl
  ·by_cases hF : Ft w0 w f i
   ·exact hF
   ·have := h.k.block i hi hF
    exact .inr ⟨h3, cs, by unfold Blk at hB ⊢; rw [← this]; exact hB⟩)⟩
theorem FmK.st {b : Nat} {t : TypeId} {c : Array Value} (h : FmK w0 w f v k l W) (hb : Blk W b t c) (h1 : t ≠ 5) (h2 : t ≠ 90) (hN : w.heap.size ≤ b) (hk : Kept (One b) W W') : FmK w0 w f v k l W' := by
 obtain ⟨⟨a, c9, hB, hO, hf, hl⟩, hK⟩ := h
 refine ⟨⟨a, c9, hB.kept hk (fun e => ?_), own_sep hO hk (fun g cur hg hc => ?_), hf, hl⟩, hK.then hk (fun i hi e => ?_)⟩
 ·have e : f = b := e
  subst e
  exact h2 (blk_one hb hB)
 ·have e : g = b := hg
  subst e
  exact h1 (blk_one hb (show Blk W g 5 cur from hc))
 ·have e : i = b := e
  omega
theorem Hps.formed {S : Nat → Prop} : ∀ {M : List Bk}, Hps w0 W M → Kept S W W' → (∀ y ∈ M, Blk W y.b y.t y.c → ¬ S y.b) → Hps w0 W' M
 | [], _, _, _ => trivial
 | x :: l, h, hk, hS => ⟨h.1.kept hk (hS x (List.mem_cons_self ..) h.1), h.2.1, h.2.2.1, Hps.formed h.2.2.2 hk (fun y hy => hS y (List.mem_cons_of_mem _ hy))⟩
theorem Hp.formed (H : Hp w0 W M) (h1 : FmK w0 w f v k l W) (h2 : FmK w0 W f v k' l' W') (ht : ∀ y ∈ M, y.t ≠ 5 ∧ y.t ≠ 90) : Hp w0 W' M := by
 obtain ⟨a, c, hB, -, hf, -⟩ := h1.m
 refine ⟨H.k.then h2.k (fun i hi hT => ?_), H.b.formed h2.k (fun y hy hY hT => ?_)⟩
 ·rcases hT with rfl | ⟨h3, -⟩ <;> omega
 ·rcases hT with rfl | ⟨-, cs, h3⟩
  ·exact (ht y hy).2 (blk_one hY hB)
  ·exact (ht y hy).1 (blk_one hY h3)
theorem FmK.cell (h : FmK w0 w f v k l W) : W.cell? ⟨f, 0, none⟩ = some (.int .i64 v) := by
 obtain ⟨a, c, hB, -⟩ := h.m
 rw [hB.cell]; rfl
theorem ft0 {α : Type} {P : α → Prop} : ∀ y ∈ ([] : List α), P y := fun y hy => by cases hy
end
section
variable {P : Program} {ops : Array Oper} {Q : Exit → Act → World → Prop} {a : Act} {w w0 : World} {rest : List Oper} {N n : Nat} {L : List (Nat × Value)} {v : Value} {ty : TypeId} {ps : String} {af : Array Edge} {op : Op} {gd : Nat × Bool} {G X Y : Bool} {ρ : Operand → Value} {o : Oper}
theorem ex_nil {x : Operand} {b off : Nat} (ho : o.op = .nilCheck x) (hx : ρ x = .pointer (some ⟨b, off, none⟩)) : (execOp ρ o).run P w = .ok (.value (.pointer (some ⟨b, off, none⟩))) w := by simp [execOp, ho, hx]
theorem hz_callR {M' : List Bk} {f : Nat} {args : Array Value} (R : Value → World → Prop) (F : Fr a N L) (hn : Nat.blt n N = true) (h : (execOp a.eval ⟨some n, op, ty, ps, af, none⟩).run P w = .ok (.enter f args) w)
  (hc : Calls P f args w fun e w' => ∃ v, e = .returned v ∧ R v w') (hH : ∀ v w', R v w' → Hp w0 w' M') (k : ∀ (v : Value) (w' : World) (a' : Act), R v w' → Hp w0 w' M' → Fr a' N ((n, v) :: L) → wpList P ops Q rest a' w') : wpList P ops Q (⟨some n, op, ty, ps, af, none⟩ :: rest) a w := by
 unfold wpList
 rw [if_pos (gx_w rfl)]
 left
 unfold Oper.wp
 rw [h]
 refine hc.mono ?_
 rintro e w' ⟨v, rfl, hR⟩
 exact k v w' _ hR (hH v w' hR) (F.put hn v)
variable {md : Region.Mode} {S : World → Prop} {fuel : Nat} {listed : Array Bool} {i : Nat}
theorem hb_callR {M' : List Bk} {f : Nat} {args : Array Value} (R : Value → World → Prop) (F : Fr a N L) (hn : Nat.blt n N = true) (hi : ops[i]? = some ⟨some n, op, ty, ps, af, none⟩)
  (h : (execOp a.eval ⟨some n, op, ty, ps, af, none⟩).run P w = .ok (.enter f args) w) (hc : Calls P f args w fun e w' => ∃ v, e = .returned v ∧ R v w') (hH : ∀ v w', R v w' → Hp w0 w' M') (hS : ∀ w', Hp w0 w' M' → S w')
  (k : ∀ (v : Value) (w' : World) (a' : Act), R v w' → Hp w0 w' M' → Fr a' N ((n, v) :: L) → wpAnyH P md ops Q S fuel (listed.setIfInBounds i true) a' w') :
  wpOp P ops Q i (fun a' w' => S w' ∧ wpAnyH P md ops Q S fuel (listed.setIfInBounds i true) a' w') a w := by
 unfold wpOp
 simp only [hi]
 rw [if_pos (gx_w rfl)]
 left
 unfold Oper.wp
 rw [h]
 refine hc.mono ?_
 rintro e w' ⟨v, rfl, hR⟩
 exact ⟨hS w' (hH v w' hR), k v w' _ hR (hH v w' hR) (F.put hn v)⟩
theorem gx_res0 {fn : Func} (h : fn.results = #[]) : (results fn a.tmps).run P w = .ok (.tuple #[]) w := results_none h _ _ _
theorem gx_res2 {fn : Func} {t u : Nat} {x y : Value} (h : fn.results = #[.tmp t, .tmp u]) (F : Fr a N L) (h1 : lk L t = some x) (h2 : lk L u = some y) : (results fn a.tmps).run P w = .ok (.tuple #[x, y]) w := by
 rw [results_tmp2 h]
 simp [Array.getD_eq_getD_getElem?, F.g t x h1, F.g u y h2]
theorem zr0 {fn : Func} {R : Ending → World → Prop} (hR : R (.returned (.tuple #[])) w) (F : Fr a N L := by assumption) (h : fn.results = #[] := by rfl) : bodyPost P fn R Exit.ret a w := bodyPost_ret (gx_res0 h) F.d hR
theorem zn0 {fn : Func} {R : Ending → World → Prop} (hR : R (.returned (.tuple #[])) w) (F : Fr a N L := by assumption) (h : fn.results = #[] := by rfl) : bodyPost P fn R Exit.normal a w := bodyPost_end (gx_res0 h) F.d hR
theorem zr2 {fn : Func} {t u : Nat} {x y : Value} {R : Ending → World → Prop} (hR : R (.returned (.tuple #[x, y])) w) (F : Fr a N L := by assumption) (h : fn.results = #[.tmp t, .tmp u] := by rfl) (h1 : lk L t = some x := by rfl) (h2 : lk L u = some y := by rfl) : bodyPost P fn R Exit.ret a w := bodyPost_ret (gx_res2 h F h1 h2) F.d hR
end
def Bys (m : List UInt8) (u : Value) (w : World) : Prop := ∃ a c, u = .slice a m.length c ∧ Row w a (B8 m) ∧ (a = none → c = 0)
theorem OwnB.bys {w : World} {m : List UInt8} {f : Nat} {args : Array Value} (h : Calls Tryz.prog f args w (OwnB w m)) : Calls Tryz.prog f args w fun e w' => ∃ v, e = .returned v ∧ Bys m v w' ∧ Kept No w w' :=
 h.mono fun e w' ⟨a, c, h1, h2, h3⟩ => ⟨_, h1, ⟨a, c, rfl, (own_row h2).1, fun e => ((own_row h2).2 e).2⟩, h3⟩
theorem app_bytes {w : World} {B : Nat} {v : Value} {l m : List UInt8} {pa : Option Addr} {pc : Nat} (hO : w.ownsRow B 5 1 v l.length (B8 l)) (hr : Row w pa (B8 m)) (hn : pa = none → pc = 0) (h1 : l.length + m.length ≤ 140737000000000) (hB : B ≤ w.heap.size) :
  ∃ v9 W9, (Builtin.append_ #[25, 25] 25 #[v, .slice pa m.length pc]).run Tryz.prog w = .ok v9 W9 ∧ W9.ownsRow B 5 1 v9 (l ++ m).length (B8 (l ++ m)) ∧ w.grownBy W9 v.ownBlock := by
 obtain ⟨i0, hi, hz0, hz1, hz2⟩ := info_parts info_u8
 cases pa with
 | some ad =>
  obtain ⟨v9, W9, q1, q2, q3, -⟩ := run_append_own (P := Tryz.prog) w B 25 25 5 i0 _ 1 1 Tryz.underlying25 hi hz0 hz1 hz2 rfl (by decide) v _ _ hO ad m.length pc (B8 m) (by simp) (hr.at_add ad rfl) (B8_one _) (by unfold maxLen; omega) (by omega) hB
  exact ⟨v9, W9, q1, by rw [List.length_append, B8_append]; exact q2, q3⟩
 | none =>
  have hm : m = [] := by rcases hr with hr | ⟨_, _, hr, _⟩; exact List.map_eq_nil_iff.1 hr; cases hr
  subst hm
  obtain rfl := hn rfl
  exact ⟨v, w, run_append_owned_none (P := Tryz.prog) (w := w) B 25 25 5 i0 1 Tryz.underlying25 hi v _ _ hO, by simpa using hO, World.grownBy.refl w _⟩
theorem app_str {w : World} {B : Nat} {v : Value} {l : List UInt8} (hO : w.ownsRow B 5 1 v l.length (B8 l)) (s : ByteArray) (h1 : l.length + s.size ≤ 140737000000000) (hB : B ≤ w.heap.size) :
  ∃ v9 W9, (Builtin.append_ #[25, 9] 25 #[v, .string s]).run Tryz.prog w = .ok v9 W9 ∧ W9.ownsRow B 5 1 v9 (l ++ s.data.toList).length (B8 (l ++ s.data.toList)) ∧ w.grownBy W9 v.ownBlock := by
 obtain ⟨i0, hi, hz0, hz1, hz2⟩ := info_parts info_u8
 obtain ⟨v9, W9, q1, q2, q3, -⟩ := Lib.run_append_own_string (P := Tryz.prog) w B 25 9 25 5 i0 Tryz.underlying25 Tryz.underlying9 hi (by rw [hz0]) hz1 hz2 v _ _ hO s (by unfold maxLen; omega) (by omega) hB
 have e : s.data.toList.length = s.size := by rw [Array.length_toList]; rfl
 exact ⟨v9, W9, q1, by rw [List.length_append, B8_append, e]; exact q2, q3⟩
theorem gs_90 (w : World) : (Go.sizeOf 90).run Tryz.prog w = .ok 2 w := by kernel_rfl
theorem fa_90_0 (B o : Nat) (w : World) : (Instr.fieldAt 90 (.pointer (some ⟨B, o, none⟩)) 0).run Tryz.prog w = .ok (.pointer (some ⟨B, o + 0, none⟩)) w := by
 have u := Tryz.underlying90
 go_simp
instance : FA 90 0 0 := ⟨fa_90_0⟩
theorem fa_90_1 (B o : Nat) (w : World) : (Instr.fieldAt 90 (.pointer (some ⟨B, o, none⟩)) 1).run Tryz.prog w = .ok (.pointer (some ⟨B, o + 1, none⟩)) w := by
 have u := Tryz.underlying90
 go_simp
instance : FA 90 1 1 := ⟨fa_90_1⟩
theorem al_90 (w : World) : (Instr.alloc 90 true (.tuple #[])).run Tryz.prog w = .ok (.pointer (some ⟨w.heap.size, 0, none⟩)) (w.alloc (.cells #[(.int .i64 0), (.slice none 0 0)] 90)) := by kernel_rfl
theorem fn_134 (args : Array Value) (w : World) : (callFunc 134 args).run Tryz.prog w = .ok (.enter 134 args) w := gx_fn Tryz.func134 (by kernel_rfl) rfl args w
theorem fn_96 (args : Array Value) (w : World) : (callFunc 96 args).run Tryz.prog w = .ok (.enter 96 args) w := gx_fn Tryz.func96 (by kernel_rfl) rfl args w
theorem fn_44 (args : Array Value) (w : World) : (callFunc 44 args).run Tryz.prog w = .ok (.enter 44 args) w := gx_fn Tryz.func44 (by kernel_rfl) rfl args w
theorem fn_101 (args : Array Value) (w : World) : (callFunc 101 args).run Tryz.prog w = .ok (.enter 101 args) w := gx_fn Tryz.func101 (by kernel_rfl) rfl args w
theorem fn_93 (args : Array Value) (w : World) : (callFunc 93 args).run Tryz.prog w = .ok (.enter 93 args) w := gx_fn Tryz.func93 (by kernel_rfl) rfl args w
theorem fn_43 (args : Array Value) (w : World) : (callFunc 43 args).run Tryz.prog w = .ok (.enter 43 args) w := gx_fn Tryz.func43 (by kernel_rfl) rfl args w
theorem fn_42 (args : Array Value) (w : World) : (callFunc 42 args).run Tryz.prog w = .ok (.enter 42 args) w := gx_fn Tryz.func42 (by kernel_rfl) rfl args w
theorem fn_98 (args : Array Value) (w : World) : (callFunc 98 args).run Tryz.prog w = .ok (.enter 98 args) w := gx_fn Tryz.func98 (by kernel_rfl) rfl args w
theorem fn_97 (args : Array Value) (w : World) : (callFunc 97 args).run Tryz.prog w = .ok (.enter 97 args) w := gx_fn Tryz.func97 (by kernel_rfl) rfl args w
theorem fn_100 (args : Array Value) (w : World) : (callFunc 100 args).run Tryz.prog w = .ok (.enter 100 args) w := gx_fn Tryz.func100 (by kernel_rfl) rfl args w
theorem fn_99 (args : Array Value) (w : World) : (callFunc 99 args).run Tryz.prog w = .ok (.enter 99 args) w := gx_fn Tryz.func99 (by kernel_rfl) rfl args w
theorem fn_21 (args : Array Value) (w : World) : (callFunc 21 args).run Tryz.prog w = .ok (.enter 21 args) w := gx_fn Tryz.func21 (by kernel_rfl) rfl args w
theorem fn_20 (args : Array Value) (w : World) : (callFunc 20 args).run Tryz.prog w = .ok (.enter 20 args) w := gx_fn Tryz.func20 (by kernel_rfl) rfl args w
theorem fn_135 (args : Array Value) (w : World) : (callFunc 135 args).run Tryz.prog w = .ok (.enter 135 args) w := gx_fn Tryz.func135 (by kernel_rfl) rfl args w
theorem fn_49 (args : Array Value) (w : World) : (callFunc 49 args).run Tryz.prog w = .ok (.enter 49 args) w := gx_fn Tryz.func49 (by kernel_rfl) rfl args w
theorem fn_136 (args : Array Value) (w : World) : (callFunc 136 args).run Tryz.prog w = .ok (.enter 136 args) w := gx_fn Tryz.func136 (by kernel_rfl) rfl args w
theorem fn_170 (args : Array Value) (w : World) : (callFunc 170 args).run Tryz.prog w = .ok (.enter 170 args) w := gx_fn Tryz.func170 (by kernel_rfl) rfl args w
theorem fn_94 (args : Array Value) (w : World) : (callFunc 94 args).run Tryz.prog w = .ok (.enter 94 args) w := gx_fn Tryz.func94 (by kernel_rfl) rfl args w
theorem fn_137 (args : Array Value) (w : World) : (callFunc 137 args).run Tryz.prog w = .ok (.enter 137 args) w := gx_fn Tryz.func137 (by kernel_rfl) rfl args w
theorem fn_95 (args : Array Value) (w : World) : (callFunc 95 args).run Tryz.prog w = .ok (.enter 95 args) w := gx_fn Tryz.func95 (by kernel_rfl) rfl args w
theorem fn_48 (args : Array Value) (w : World) : (callFunc 48 args).run Tryz.prog w = .ok (.enter 48 args) w := gx_fn Tryz.func48 (by kernel_rfl) rfl args w
theorem cvI8 (n : Int) (w : World) (h : 0 ≤ n) (h2 : n ≤ 255) : (convert 3 5 (.int .i64 n)).run Tryz.prog w = .ok (.int .u8 (n.toNat : Int)) w := by
 obtain ⟨m, rfl⟩ : ∃ m : Nat, n = (m : Int) := ⟨n.toNat, by omega⟩
 have u := Tryz.underlying3
 have u2 := Tryz.underlying5
 have e : IntKind.u8.wrap ((m : Int)) = (m : Int) := gx_wrap_u8 (by omega) (by omega)
 go_simp
 try exact e
theorem cvI32 (n : Nat) (w : World) (h2 : n ≤ 4294967295) : (convert 3 84 (.int .i64 n)).run Tryz.prog w = .ok (.int .u32 n) w := by
 have u := Tryz.underlying3
 have u2 := Tryz.underlying84
 have e : IntKind.u32.wrap ((n : Int)) = (n : Int) := gx_wrap_u32 (by omega) (by omega)
 go_simp
 try exact e
set_option maxHeartbeats 4000000 in
theorem lay_any8 (w0 w : World) (f : Nat) (v : Int) (k : Nat) (l : List UInt8) (H : Hp w0 w []) (hZ : Fm w0 w f v k l) (pa : Option Addr) (pc : Nat) (m : List UInt8) (hr : Row w pa (B8 m)) (hn : pa = none → pc = 0) (hm : m.length ≤ 1000000000) (hk : k ≤ 130000) :
  Calls Tryz.prog 93 #[.pointer (some ⟨f, 0, none⟩), .slice pa m.length pc] w fun e w' => ∃ u, e = .returned u ∧ FmP w0 w f v (k + 1) (l ++ m) u w' := by
 obtain ⟨a, c, hB, hO, hf, hl⟩ := hZ
 have HB : Hp w0 w [⟨f, 90, #[.int .i64 v, .slice a l.length c]⟩] := ⟨H.k, hB, hf, fun y hy => (by cases hy), trivial⟩
 clear H hB
 have HB2 := HB
 let RR : Ending → World → Prop := fun e w' => ∃ u, e = .returned u ∧ FmP w0 w f v (k + 1) (l ++ m) u w'
 go_enter Tryz.func93, Tryz.ntmps93
 generalize hA : ({ tmps := _, defers := [] } : Act) = A
 have F : Fr A 13 [(1, (.slice pa m.length pc)), (0, (.pointer (some ⟨f, 0, none⟩)))] := by rw [← hA]; exact (Fr.cons (i := 1) (v := (.slice pa m.length pc)) (Fr.cons (i := 0) (v := (.pointer (some ⟨f, 0, none⟩))) (Fr.nil0 rfl rfl) rfl) rfl)
 clear hA; have H := HB; clear HB HB2
 refine gx_region ?_
 iterate 2 (refine zd ?_; intro A F)
 refine hz_do F rfl (ex_nil rfl (F.e rfl)) ?_; intro A F
 iterate 3 (refine zd ?_; intro A F)
 have hlm : l.length + m.length ≤ 140737000000000 := by omega
 obtain ⟨v9, W9, hrun, hO9, hg⟩ := app_bytes hO hr hn hlm H.size
 have hkS := kept_grown hg; obtain ⟨a9, c9, hv9⟩ := own_slice hO9; subst hv9
 refine hz_do F rfl (ex_builtin rfl (gx_l1 (F.e rfl) (gx_l1 (F.e rfl) gx_l0)) (fun cs => by simp only [builtin]; exact gx_val hrun)) ?_; intro A F
 replace H := Hp.grown H hO hkS (fa1 (sv_type hO (H.b.at_ (j := 0) rfl).1 (show 90 ≠ 5 by decide)) fa0)
 have hK9 : Kept (Ft w0 w f) w W9 := (Kept.refl _ w).then hkS (fun i hi e => .inr ⟨(hO.lt i e).1, own_typed hO e⟩)
 refine hz_do F rfl (ex_nil rfl (F.e rfl)) ?_; intro A F
 refine zd ?_; intro A F
 refine zs [] (#[(.int .i64 v), (.slice a9 ((l ++ m).length) c9)]) ?_; intro W H9 hk
 replace hO9 := og_far hO9 (H.b.at_ (j := 0) rfl).1 (show 90 ≠ 5 by decide) hk; replace hK9 := hK9.then hk (fun i hi e => .inl e); clear H hk; have H := H9; clear H9
 refine wpList_nil ?_
 refine (show bodyPost _ Tryz.f93 RR Exit.normal _ _ from zn0 ?_)
 exact ⟨_, rfl, rfl, ⟨a9, c9, (H.b.at_ (j := 0) rfl).1, hO9, hf, by rw [List.length_append]; omega⟩, hK9⟩
set_option maxHeartbeats 4000000 in
theorem one_any8 (w0 w : World) (f : Nat) (v : Int) (k : Nat) (l : List UInt8) (H : Hp w0 w []) (hZ : Fm w0 w f v k l) (n : Nat) (hn : n ≤ 255) (hk : k ≤ 130000) :
  Calls Tryz.prog 42 #[.pointer (some ⟨f, 0, none⟩), .int .u8 n] w fun e w' => ∃ u, e = .returned u ∧ FmP w0 w f v (k + 1) (l ++ by1 n) u w' := by
 replace hZ := hZ.start
 have HB := H; clear H
 let RR : Ending → World → Prop := fun e w' => ∃ u, e = .returned u ∧ FmP w0 w f v (k + 1) (l ++ by1 n) u w'
 go_enter Tryz.func42, Tryz.ntmps42
 generalize hA : ({ tmps := _, defers := [] } : Act) = A
 have F : Fr A 8 [(1, (.int .u8 ((n : Int)))), (0, (.pointer (some ⟨f, 0, none⟩)))] := by rw [← hA]; exact (Fr.cons (i := 1) (v := (.int .u8 ((n : Int)))) (Fr.cons (i := 0) (v := (.pointer (some ⟨f, 0, none⟩))) (Fr.nil0 rfl rfl) rfl) rfl)
 clear hA; have H := HB; clear HB
 refine gx_region ?_
 iterate 2 (refine zd ?_; intro A F)
 refine hz_call (R := Bys (by1 n)) F H rfl (ex_call rfl rfl (gx_l1 gx_evc (gx_l1 (F.e rfl) gx_l0)) fn_94) (OwnB.bys ((byte_any none 0 [] n _ (by omega) (by omega) (.nil _ _) (fun _ => ⟨rfl, rfl⟩) (by simp)).mono fun _ _ h => Lays.own h)) ?_; clear F H A; intro vv W A hR hk H F; obtain ⟨a9, c9, rfl, hr9, hn9⟩ := hR
 replace hZ := hZ.no hk
 clear hk
 refine hz_callR (FmP w0 _ f v (k + 1) (l ++ (by1 n))) F rfl (ex_call rfl rfl (gx_l1 (F.e rfl) (gx_l1 (F.e rfl) gx_l0)) fn_93) (lay_any8 w0 _ f v _ _ ⟨H.k, trivial⟩ hZ.m a9 c9 (by1 n) hr9 hn9 (by simp [b1_len]) (by omega)) (fun _ _ h => H.formed hZ h.2 ft0) ?_; clear F H A; intro vv W A hR H F; obtain ⟨rfl, hZ9⟩ := hR
 replace hZ := hZ.step hZ9; clear hZ9
 refine wpList_nil ?_
 refine (show bodyPost _ Tryz.f42 RR Exit.normal _ _ from zn0 ?_)
 exact ⟨_, rfl, rfl, hZ.is (by first | rfl | (simp only [List.append_assoc]; done)) (by omega)⟩
set_option maxHeartbeats 4000000 in
theorem two_any8 (w0 w : World) (f : Nat) (v : Int) (k : Nat) (l : List UInt8) (H : Hp w0 w []) (hZ : Fm w0 w f v k l) (n : Nat) (hn : n ≤ 65535) (hk : k ≤ 130000) :
  Calls Tryz.prog 99 #[.pointer (some ⟨f, 0, none⟩), .int .u16 n] w fun e w' => ∃ u, e = .returned u ∧ FmP w0 w f v (k + 1) (l ++ by2 n) u w' := by
 replace hZ := hZ.start
 have HB := H; clear H
 let RR : Ending → World → Prop := fun e w' => ∃ u, e = .returned u ∧ FmP w0 w f v (k + 1) (l ++ by2 n) u w'
 go_enter Tryz.func99, Tryz.ntmps99
 generalize hA : ({ tmps := _, defers := [] } : Act) = A
 have F : Fr A 8 [(1, (.int .u16 ((n : Int)))), (0, (.pointer (some ⟨f, 0, none⟩)))] := by rw [← hA]; exact (Fr.cons (i := 1) (v := (.int .u16 ((n : Int)))) (Fr.cons (i := 0) (v := (.pointer (some ⟨f, 0, none⟩))) (Fr.nil0 rfl rfl) rfl) rfl)
 clear hA; have H := HB; clear HB
 refine gx_region ?_
 iterate 2 (refine zd ?_; intro A F)
 refine hz_call (R := Bys (by2 n)) F H rfl (ex_call rfl rfl (gx_l1 gx_evc (gx_l1 (F.e rfl) gx_l0)) fn_137) (OwnB.bys ((two_any none 0 [] n _ (by omega) (by omega) (.nil _ _) (fun _ => ⟨rfl, rfl⟩) (by simp)).mono fun _ _ h => Lays.own h)) ?_; clear F H A; intro vv W A hR hk H F; obtain ⟨a9, c9, rfl, hr9, hn9⟩ := hR
 replace hZ := hZ.no hk
 clear hk
 refine hz_callR (FmP w0 _ f v (k + 1) (l ++ (by2 n))) F rfl (ex_call rfl rfl (gx_l1 (F.e rfl) (gx_l1 (F.e rfl) gx_l0)) fn_93) (lay_any8 w0 _ f v _ _ ⟨H.k, trivial⟩ hZ.m a9 c9 (by2 n) hr9 hn9 (by simp [b2_len]) (by omega)) (fun _ _ h => H.formed hZ h.2 ft0) ?_; clear F H A; intro vv W A hR H F; obtain ⟨rfl, hZ9⟩ := hR
 replace hZ := hZ.step hZ9; clear hZ9
 refine wpList_nil ?_
 refine (show bodyPost _ Tryz.f99 RR Exit.normal _ _ from zn0 ?_)
 exact ⟨_, rfl, rfl, hZ.is (by first | rfl | (simp only [List.append_assoc]; done)) (by omega)⟩
set_option maxHeartbeats 4000000 in
theorem number_any8 (w0 w : World) (f : Nat) (v : Int) (k : Nat) (l : List UInt8) (H : Hp w0 w []) (hZ : Fm w0 w f v k l) (n : Nat) (hn : n ≤ 268435455) (hk : k ≤ 130000) :
  Calls Tryz.prog 43 #[.pointer (some ⟨f, 0, none⟩), .int .i64 n] w fun e w' => ∃ u, e = .returned u ∧ FmP w0 w f v (k + 1) (l ++ varL n) u w' := by
 replace hZ := hZ.start
 have HB := H; clear H
 let RR : Ending → World → Prop := fun e w' => ∃ u, e = .returned u ∧ FmP w0 w f v (k + 1) (l ++ varL n) u w'
 go_enter Tryz.func43, Tryz.ntmps43
 generalize hA : ({ tmps := _, defers := [] } : Act) = A
 have F : Fr A 9 [(1, (.int .i64 ((n : Int)))), (0, (.pointer (some ⟨f, 0, none⟩)))] := by rw [← hA]; exact (Fr.cons (i := 1) (v := (.int .i64 ((n : Int)))) (Fr.cons (i := 0) (v := (.pointer (some ⟨f, 0, none⟩))) (Fr.nil0 rfl rfl) rfl) rfl)
 clear hA; have H := HB; clear HB
 refine gx_region ?_
 iterate 2 (refine zd ?_; intro A F)
 refine hz_do (v := (.int .u32 ((n : Int)))) F rfl (ex_conv rfl (F.e rfl) (cvI32 n _ (by omega))) ?_; intro A F
 refine hz_call (R := Bys (varL n)) F H rfl (ex_call rfl rfl (gx_l1 gx_evc (gx_l1 (F.e rfl) gx_l0)) fn_95) (OwnB.bys ((varL_var n (by omega) _).mono fun _ _ h => Lays.own h)) ?_; clear F H A; intro vv W A hR hk H F; obtain ⟨a9, c9, rfl, hr9, hn9⟩ := hR
 replace hZ := hZ.no hk
 clear hk
 refine hz_callR (FmP w0 _ f v (k + 1) (l ++ (varL n))) F rfl (ex_call rfl rfl (gx_l1 (F.e rfl) (gx_l1 (F.e rfl) gx_l0)) fn_93) (lay_any8 w0 _ f v _ _ ⟨H.k, trivial⟩ hZ.m a9 c9 (varL n) hr9 hn9 (by have := varL_le n; omega) (by omega)) (fun _ _ h => H.formed hZ h.2 ft0) ?_; clear F H A; intro vv W A hR H F; obtain ⟨rfl, hZ9⟩ := hR
 replace hZ := hZ.step hZ9; clear hZ9
 refine wpList_nil ?_
 refine (show bodyPost _ Tryz.f43 RR Exit.normal _ _ from zn0 ?_)
 exact ⟨_, rfl, rfl, hZ.is (by first | rfl | (simp only [List.append_assoc]; done)) (by omega)⟩
set_option maxHeartbeats 4000000 in
theorem bin_any8 (w0 w : World) (f : Nat) (v : Int) (k : Nat) (l : List UInt8) (H : Hp w0 w []) (hZ : Fm w0 w f v k l) (s : ByteArray) (hn : s.size ≤ 65535) (hk : k ≤ 130000) :
  Calls Tryz.prog 134 #[.pointer (some ⟨f, 0, none⟩), .string s] w fun e w' => ∃ u, e = .returned u ∧ FmP w0 w f v (k + 1) (l ++ binBy s) u w' := by
 replace hZ := hZ.start
 have HB := H; clear H
 let RR : Ending → World → Prop := fun e w' => ∃ u, e = .returned u ∧ FmP w0 w f v (k + 1) (l ++ binBy s) u w'
 go_enter Tryz.func134, Tryz.ntmps134
 generalize hA : ({ tmps := _, defers := [] } : Act) = A
 have F : Fr A 8 [(1, (.string s)), (0, (.pointer (some ⟨f, 0, none⟩)))] := by rw [← hA]; exact (Fr.cons (i := 1) (v := (.string s)) (Fr.cons (i := 0) (v := (.pointer (some ⟨f, 0, none⟩))) (Fr.nil0 rfl rfl) rfl) rfl)
 clear hA; have H := HB; clear HB
 refine gx_region ?_
 iterate 2 (refine zd ?_; intro A F)
 refine hz_call (R := Bys (binBy s)) F H rfl (ex_call rfl rfl (gx_l1 gx_evc (gx_l1 (F.e rfl) gx_l0)) fn_170) (OwnB.bys ((bin_any none 0 [] s _ hn (.nil _ _) (fun _ => ⟨rfl, rfl⟩) (by simp)).mono fun _ _ h => Lays.own h)) ?_; clear F H A; intro vv W A hR hk H F; obtain ⟨a9, c9, rfl, hr9, hn9⟩ := hR
 replace hZ := hZ.no hk
 clear hk
 refine hz_callR (FmP w0 _ f v (k + 1) (l ++ (binBy s))) F rfl (ex_call rfl rfl (gx_l1 (F.e rfl) (gx_l1 (F.e rfl) gx_l0)) fn_93) (lay_any8 w0 _ f v _ _ ⟨H.k, trivial⟩ hZ.m a9 c9 (binBy s) hr9 hn9 (by rw [binBy_len]; omega) (by omega)) (fun _ _ h => H.formed hZ h.2 ft0) ?_; clear F H A; intro vv W A hR H F; obtain ⟨rfl, hZ9⟩ := hR
 replace hZ := hZ.step hZ9; clear hZ9
 refine wpList_nil ?_
 refine (show bodyPost _ Tryz.f134 RR Exit.normal _ _ from zn0 ?_)
 exact ⟨_, rfl, rfl, hZ.is (by first | rfl | (simp only [List.append_assoc]; done)) (by omega)⟩
theorem putL_le (L : List Pr) (h : ∀ p ∈ L, p.wf') : (putL [] L).length ≤ 268435470 := by
 unfold putL
 split
 ·rename_i n hn
  have h1 := lenGo_some L 0 n h hn (by omega)
  have h2 := varL_le n
  simp [addVar]
  omega
 ·simp
theorem secB_4 (v : Int) (L : List Pr) (h : v = 4 ∨ v = 5) (h5 : decide (v = 5) = false) : secB v L = [] := by
 have := of_decide_eq_false h5
 unfold secB
 rw [if_pos (by omega)]
theorem secB_5 (v : Int) (L : List Pr) (h5 : decide (v = 5) = true) : secB v L = putL [] L := by
 have := of_decide_eq_true h5
 unfold secB
 rw [if_neg (by omega)]
set_option maxHeartbeats 4000000 in
theorem section_any8 (w0 w : World) (f : Nat) (v : Int) (k : Nat) (l : List UInt8) (H : Hp w0 w []) (hZ : Fm w0 w f v k l) (L : List Pr) (sa : Option Addr) (sc : Nat) (hp : Row w0 sa (PC L)) (hL : L.length ≤ 100000) (hw : ∀ p ∈ L, p.wf') (hv : v = 4 ∨ v = 5) (hT : Tabs w0) (hk : k ≤ 130000) :
  Calls Tryz.prog 97 #[.pointer (some ⟨f, 0, none⟩), .slice sa L.length sc] w fun e w' => ∃ u, e = .returned u ∧ FmP w0 w f v (k + 1) (l ++ secB v L) u w' := by
 replace hZ := hZ.start
 have HB := H; clear H
 let RR : Ending → World → Prop := fun e w' => ∃ u, e = .returned u ∧ FmP w0 w f v (k + 1) (l ++ secB v L) u w'
 go_enter Tryz.func97, Tryz.ntmps97
 generalize hA : ({ tmps := _, defers := [] } : Act) = A
 have F : Fr A 13 [(1, (.slice sa L.length sc)), (0, (.pointer (some ⟨f, 0, none⟩)))] := by rw [← hA]; exact (Fr.cons (i := 1) (v := (.slice sa L.length sc)) (Fr.cons (i := 0) (v := (.pointer (some ⟨f, 0, none⟩))) (Fr.nil0 rfl rfl) rfl) rfl)
 clear hA; have H := HB; clear HB
 refine wp_seq_k (fun K1 hK1 => gx_region ?_)
 refine zd ?_; intro A F
 refine hz_do F rfl (ex_nil rfl (F.e rfl)) ?_; intro A F
 refine hz_fld F rfl rfl (F.e rfl) (fa_90_0 _ _ _) (ag_3 _) hZ.cell ?_; intro A F
 refine zb (rn_eql) ?_; intro A F
 refine wpList_nil (hK1 _ _ ?_)
 refine zc (fun hb2 => ?_) (fun hb2 => ?_)
 ·skip
  refine gx_region ?_
  iterate 2 (refine zd ?_; intro A F)
  refine hz_call (R := Bys (putL [] L)) F H rfl (ex_call rfl rfl (gx_l1 gx_evc (gx_l1 (F.e rfl) gx_l0)) fn_136) (OwnB.bys (put_any none 0 [] sa sc L _ (.nil _ _) (fun _ => ⟨rfl, rfl⟩) (by simp) (hp.keptNo H.k) hL hw (hT.kept H.k))) ?_; clear F H A; intro vv W A hR hk H F; obtain ⟨a9, c9, rfl, hr9, hn9⟩ := hR
  replace hZ := hZ.no hk
  clear hk
  refine hz_callR (FmP w0 _ f v (k + 1) (l ++ (putL [] L))) F rfl (ex_call rfl rfl (gx_l1 (F.e rfl) (gx_l1 (F.e rfl) gx_l0)) fn_93) (lay_any8 w0 _ f v _ _ ⟨H.k, trivial⟩ hZ.m a9 c9 (putL [] L) hr9 hn9 (by have := putL_le L hw; omega) (by omega)) (fun _ _ h => H.formed hZ h.2 ft0) ?_; clear F H A; intro vv W A hR H F; obtain ⟨rfl, hZ9⟩ := hR
  replace hZ := hZ.step hZ9; clear hZ9
  refine wpList_nil ?_
  refine (show bodyPost _ Tryz.f97 RR Exit.normal _ _ from zn0 ?_)
  exact ⟨_, rfl, rfl, hZ.is (by rw [secB_5 v L hb2]) (by omega)⟩
 refine wp_skip ?_
 refine (show bodyPost _ Tryz.f97 RR Exit.normal _ _ from zn0 ?_)
 exact ⟨_, rfl, rfl, hZ.is (by rw [secB_4 v L hv hb2, List.append_nil]) (by omega)⟩
theorem bitN_le (b : Bool) (n : Nat) : bitN b n ≤ n := by unfold bitN; split <;> omega
set_option maxHeartbeats 4000000 in
theorem when_any (b : Bool) (n : Nat) (w : World) :
  Calls Tryz.prog 49 #[.bool b, .int .u8 n] w fun e w' => e = .returned (.int .u8 (bitN b n : Int)) ∧ Kept No w w' := by
 let RR : Ending → World → Prop := fun e w' => e = .returned (.int .u8 (bitN b n : Int)) ∧ Kept No w w'
 go_enter Tryz.func49, Tryz.ntmps49
 generalize hA : ({ tmps := _, defers := [] } : Act) = A
 have F : Fr A 7 [(1, (.int .u8 ((n : Int)))), (0, (.bool b))] := by rw [← hA]; exact (Fr.cons (i := 1) (v := (.int .u8 ((n : Int)))) (Fr.cons (i := 0) (v := (.bool b)) (Fr.nil0 rfl rfl) rfl) rfl)
 clear hA; have H := Hp.start w
 refine wp_seq_k (fun K1 hK1 => gx_region ?_)
 refine zd ?_; intro A F
 refine wpList_nil (hK1 _ _ ?_)
 refine wp_seq_k (fun K2 hK2 => ?_)
 refine wp_seq_k (fun K3 hK3 => gx_region ?_)
 refine zd ?_; intro A F
 refine wpList_nil (hK3 _ _ ?_)
 refine zc (fun hb4 => ?_) (fun hb4 => ?_)
 ·skip
  refine wp_seq_k (fun K5 hK5 => gx_region ?_)
  iterate 2 (refine zd ?_; intro A F)
  refine wpList_nil (hK5 _ _ ?_)
  refine gx_ret ?_
  refine (show bodyPost _ Tryz.f49 RR Exit.ret _ _ from zr ?_)
  exact ri (by simp [bitN, hb4])
 refine wp_skip (hK2 _ _ ?_)
 refine wp_seq_k (fun K6 hK6 => gx_region ?_)
 refine zd ?_; intro A F
 refine wpList_nil (hK6 _ _ ?_)
 refine gx_ret ?_
 refine (show bodyPost _ Tryz.f49 RR Exit.ret _ _ from zr ?_)
 exact ri (by simp [bitN, hb4])
set_option maxHeartbeats 4000000 in
theorem flags_any (v : Int) (p : Pk) (s : Sl) (w : World) (hR : Ri v p) :
  Calls Tryz.prog 21 #[p.val s] w fun e w' => e = .returned (.int .u8 (flagsN p : Int)) ∧ Kept No w w' := by
 have h1 := bitN_le p.retain 1; have h2 := bitN_le p.dup 8; have hq := hR.qos
 let RR : Ending → World → Prop := fun e w' => e = .returned (.int .u8 (flagsN p : Int)) ∧ Kept No w w'
 go_enter Tryz.func21, Tryz.ntmps21
 generalize hA : ({ tmps := _, defers := [] } : Act) = A
 have F : Fr A 22 [(0, (Pk.val p s))] := by rw [← hA]; exact (Fr.cons (i := 0) (v := (Pk.val p s)) (Fr.nil0 rfl rfl) rfl)
 clear hA; have H := Hp.start w
 refine wp_seq_k (fun K1 hK1 => gx_region ?_)
 refine hz_new (c := (Pk.cells p s)) (t := 33) F H rfl (ex_box rfl (F.e rfl) (gx_box _ _)) ?_; clear F A; intro b2 W A hk hN H9 F; clear H; have H := H9; clear H9
 clear hk hN
 refine zd ?_; intro A F
 refine wpList_nil (hK1 _ _ ?_)
 refine wp_seq_k (fun K3 hK3 => ?_)
 refine wp_seq_k (fun K4 hK4 => gx_region ?_)
 iterate 2 (refine zd ?_; intro A F)
 refine wpList_nil (hK4 _ _ ?_)
 refine wp_block ?_
 refine wp_seq_k (fun K5 hK5 => gx_region ?_)
 refine zb (rn_eql) ?_; intro A F
 refine zd ?_; intro A F
 refine wpList_nil (hK5 _ _ ?_)
 refine zc (fun hb6 => ?_) (fun hb6 => ?_)
 ·skip
  refine wp_seq_k (fun K7 hK7 => ?_)
  refine wp_region_held_drew (S := fun wx => Hp _ wx _) (by kernel_rfl) H.drew (fun H9 => ?_); clear H; have H := H9; clear H9
  generalize World.drew _ = W at *
  refine td 0 ?_; intro A F
  refine td 1 ?_; intro A F
  refine td 3 ?_; intro A F
  refine td 4 ?_; intro A F
  refine hzh_do (i := 5) F rfl rfl (by kernel_rfl) (fun _ _ _ h => h) (H) (fun wz H => (ex_bin rfl gx_evc (F.e rfl) (rn_mul (gx_wrap_u8 (by omega) (by omega))))) ?_; intro A F
  refine td 7 ?_; intro A F
  refine td 8 ?_; intro A F
  refine hb_one (i := 2) (by kernel_rfl) (hb_callk (i := 2) F rfl rfl (ex_call rfl rfl (gx_l1 (F.e rfl) (gx_l1 gx_evc gx_l0)) fn_49) (when_any p.retain 1 _) (fun _ hk => (H.kept hk)) ?_); clear F A; intro W A hk _ F; replace H := H.kept hk
  clear hk
  refine hzh_do (i := 6) F rfl rfl (by kernel_rfl) (fun _ _ _ h => h) (H) (fun wz H => (ex_bin rfl (F.e rfl) (F.e rfl) (rn_add (gx_wrap_u8 (by omega) (by omega))))) ?_; intro A F
  refine hb_one (i := 9) (by kernel_rfl) (hb_callk (i := 9) F rfl rfl (ex_call rfl rfl (gx_l1 (F.e rfl) (gx_l1 gx_evc gx_l0)) fn_49) (when_any p.dup 8 _) (fun _ hk => (H.kept hk)) ?_); clear F A; intro W A hk _ F; replace H := H.kept hk
  clear hk
  refine hzh_do (i := 10) F rfl rfl (by kernel_rfl) (fun _ _ _ h => h) (H) (fun wz H => (ex_bin rfl (F.e rfl) (F.e rfl) (rn_add (gx_wrap_u8 (by omega) (by omega))))) ?_; intro A F
  refine td 11 ?_; intro A F
  refine wpAnyH_done (by kernel_rfl) ?_ _
  refine hK7 _ _ ?_
  refine gx_ret ?_
  refine (show bodyPost _ Tryz.f21 RR Exit.ret _ _ from zr ?_)
  exact ri (by have := hb6; simp only [decide_eq_true_eq, decide_eq_false_iff_not, Bool.or_eq_true, Bool.or_eq_false_iff] at *; unfold flagsN; (repeat' split) <;> first | rfl | (push_cast; omega) | omega | (exfalso; omega))
 refine wp_seq_k (fun K10 hK10 => ?_)
 refine wp_seq_k (fun K11 hK11 => gx_region ?_)
 refine zb (rn_eql) ?_; intro A F
 refine zd ?_; intro A F
 refine wpList_nil (hK11 _ _ ?_)
 refine zc (fun hb12 => ?_) (fun hb12 => ?_)
 ·skip
  refine wp_skip (hK10 _ _ ?_)
  refine wp_cond_true ((F.e rfl).trans (congrArg Value.bool hb12)) ?_
  refine wp_seq_k (fun K13 hK13 => gx_region ?_)
  refine zd ?_; intro A F
  refine wpList_nil (hK13 _ _ ?_)
  refine gx_ret ?_
  refine (show bodyPost _ Tryz.f21 RR Exit.ret _ _ from zr ?_)
  exact ri (by have := hb6; have := hb12; simp only [decide_eq_true_eq, decide_eq_false_iff_not, Bool.or_eq_true, Bool.or_eq_false_iff] at *; unfold flagsN; (repeat' split) <;> first | rfl | (push_cast; omega) | omega | (exfalso; omega))
 refine wp_seq_k (fun K14 hK14 => gx_region ?_)
 refine zb (rn_eql) ?_; intro A F
 refine zd ?_; intro A F
 refine wpList_nil (hK14 _ _ ?_)
 refine zc (fun hb15 => ?_) (fun hb15 => ?_)
 ·skip
  refine wp_skip (hK10 _ _ ?_)
  refine wp_cond_true ((F.e rfl).trans (congrArg Value.bool hb15)) ?_
  refine wp_seq_k (fun K16 hK16 => gx_region ?_)
  refine zd ?_; intro A F
  refine wpList_nil (hK16 _ _ ?_)
  refine gx_ret ?_
  refine (show bodyPost _ Tryz.f21 RR Exit.ret _ _ from zr ?_)
  exact ri (by have := hb6; have := hb12; have := hb15; simp only [decide_eq_true_eq, decide_eq_false_iff_not, Bool.or_eq_true, Bool.or_eq_false_iff] at *; unfold flagsN; (repeat' split) <;> first | rfl | (push_cast; omega) | omega | (exfalso; omega))
 refine gx_region ?_
 refine zb (rn_eql) ?_; intro A F
 refine zd ?_; intro A F
 refine wpList_nil (hK10 _ _ ?_)
 refine zc (fun hb17 => ?_) (fun hb17 => ?_)
 ·skip
  refine wp_seq_k (fun K18 hK18 => gx_region ?_)
  refine zd ?_; intro A F
  refine wpList_nil (hK18 _ _ ?_)
  refine gx_ret ?_
  refine (show bodyPost _ Tryz.f21 RR Exit.ret _ _ from zr ?_)
  exact ri (by have := hb6; have := hb12; have := hb15; have := hb17; simp only [decide_eq_true_eq, decide_eq_false_iff_not, Bool.or_eq_true, Bool.or_eq_false_iff] at *; unfold flagsN; (repeat' split) <;> first | rfl | (push_cast; omega) | omega | (exfalso; omega))
 refine wp_skip (hK3 _ _ ?_)
 refine wp_seq_k (fun K19 hK19 => gx_region ?_)
 refine zd ?_; intro A F
 refine wpList_nil (hK19 _ _ ?_)
 refine gx_ret ?_
 refine (show bodyPost _ Tryz.f21 RR Exit.ret _ _ from zr ?_)
 exact ri (by have := hb6; have := hb12; have := hb15; have := hb17; simp only [decide_eq_true_eq, decide_eq_false_iff_not, Bool.or_eq_true, Bool.or_eq_false_iff] at *; unfold flagsN; (repeat' split) <;> first | rfl | (push_cast; omega) | omega | (exfalso; omega))
set_option maxHeartbeats 4000000 in
theorem conFlags_any (v : Int) (p : Pk) (s : Sl) (w : World) (hR : Ri v p) :
  Calls Tryz.prog 135 #[p.val s] w fun e w' => e = .returned (.int .u8 (conFlN p : Int)) ∧ Kept No w w' := by
 have h1 := bitN_le p.clean 2; have h2 := bitN_le p.hasWill 4; have hq := hR.wq; have h3 := bitN_le p.willRetain 32; have h4 := bitN_le p.hasPass 64; have h5 := bitN_le p.hasUser 128
 let RR : Ending → World → Prop := fun e w' => e = .returned (.int .u8 (conFlN p : Int)) ∧ Kept No w w'
 go_enter Tryz.func135, Tryz.ntmps135
 generalize hA : ({ tmps := _, defers := [] } : Act) = A
 have F : Fr A 26 [(0, (Pk.val p s))] := by rw [← hA]; exact (Fr.cons (i := 0) (v := (Pk.val p s)) (Fr.nil0 rfl rfl) rfl)
 clear hA; have H := Hp.start w
 refine wp_seq_k (fun K1 hK1 => gx_region ?_)
 refine hz_new (c := (Pk.cells p s)) (t := 33) F H rfl (ex_box rfl (F.e rfl) (gx_box _ _)) ?_; clear F A; intro b2 W A hk hN H9 F; clear H; have H := H9; clear H9
 clear hk hN
 refine zd ?_; intro A F
 refine wpList_nil (hK1 _ _ ?_)
 refine wp_seq_k (fun K3 hK3 => ?_)
 refine wp_region_held_drew (S := fun wx => Hp _ wx _) (by kernel_rfl) H.drew (fun H9 => ?_); clear H; have H := H9; clear H9
 generalize World.drew _ = W at *
 refine td 0 ?_; intro A F
 refine td 1 ?_; intro A F
 refine td 3 ?_; intro A F
 refine td 4 ?_; intro A F
 refine td 7 ?_; intro A F
 refine td 8 ?_; intro A F
 refine hzh_do (i := 9) F rfl rfl (by kernel_rfl) (fun _ _ _ h => h) (H) (fun wz H => (ex_bin rfl gx_evc (F.e rfl) (rn_mul (gx_wrap_u8 (by omega) (by omega))))) ?_; intro A F
 refine td 11 ?_; intro A F
 refine td 12 ?_; intro A F
 refine td 15 ?_; intro A F
 refine td 16 ?_; intro A F
 refine td 19 ?_; intro A F
 refine td 20 ?_; intro A F
 refine hb_one (i := 2) (by kernel_rfl) (hb_callk (i := 2) F rfl rfl (ex_call rfl rfl (gx_l1 (F.e rfl) (gx_l1 gx_evc gx_l0)) fn_49) (when_any p.clean 2 _) (fun _ hk => (H.kept hk)) ?_); clear F A; intro W A hk _ F; replace H := H.kept hk
 clear hk
 refine hb_one (i := 5) (by kernel_rfl) (hb_callk (i := 5) F rfl rfl (ex_call rfl rfl (gx_l1 (F.e rfl) (gx_l1 gx_evc gx_l0)) fn_49) (when_any p.hasWill 4 _) (fun _ hk => (H.kept hk)) ?_); clear F A; intro W A hk _ F; replace H := H.kept hk
 clear hk
 refine hzh_do (i := 6) F rfl rfl (by kernel_rfl) (fun _ _ _ h => h) (H) (fun wz H => (ex_bin rfl (F.e rfl) (F.e rfl) (rn_add (gx_wrap_u8 (by omega) (by omega))))) ?_; intro A F
 refine hzh_do (i := 10) F rfl rfl (by kernel_rfl) (fun _ _ _ h => h) (H) (fun wz H => (ex_bin rfl (F.e rfl) (F.e rfl) (rn_add (gx_wrap_u8 (by omega) (by omega))))) ?_; intro A F
 refine hb_one (i := 13) (by kernel_rfl) (hb_callk (i := 13) F rfl rfl (ex_call rfl rfl (gx_l1 (F.e rfl) (gx_l1 gx_evc gx_l0)) fn_49) (when_any p.willRetain 32 _) (fun _ hk => (H.kept hk)) ?_); clear F A; intro W A hk _ F; replace H := H.kept hk
 clear hk
 refine hzh_do (i := 14) F rfl rfl (by kernel_rfl) (fun _ _ _ h => h) (H) (fun wz H => (ex_bin rfl (F.e rfl) (F.e rfl) (rn_add (gx_wrap_u8 (by omega) (by omega))))) ?_; intro A F
 refine hb_one (i := 17) (by kernel_rfl) (hb_callk (i := 17) F rfl rfl (ex_call rfl rfl (gx_l1 (F.e rfl) (gx_l1 gx_evc gx_l0)) fn_49) (when_any p.hasPass 64 _) (fun _ hk => (H.kept hk)) ?_); clear F A; intro W A hk _ F; replace H := H.kept hk
 clear hk
 refine hzh_do (i := 18) F rfl rfl (by kernel_rfl) (fun _ _ _ h => h) (H) (fun wz H => (ex_bin rfl (F.e rfl) (F.e rfl) (rn_add (gx_wrap_u8 (by omega) (by omega))))) ?_; intro A F
 refine hb_one (i := 21) (by kernel_rfl) (hb_callk (i := 21) F rfl rfl (ex_call rfl rfl (gx_l1 (F.e rfl) (gx_l1 gx_evc gx_l0)) fn_49) (when_any p.hasUser 128 _) (fun _ hk => (H.kept hk)) ?_); clear F A; intro W A hk _ F; replace H := H.kept hk
 clear hk
 refine hzh_do (i := 22) F rfl rfl (by kernel_rfl) (fun _ _ _ h => h) (H) (fun wz H => (ex_bin rfl (F.e rfl) (F.e rfl) (rn_add (gx_wrap_u8 (by omega) (by omega))))) ?_; intro A F
 refine td 23 ?_; intro A F
 refine wpAnyH_done (by kernel_rfl) ?_ _
 refine hK3 _ _ ?_
 refine gx_ret ?_
 refine (show bodyPost _ Tryz.f135 RR Exit.ret _ _ from zr ?_)
 exact ri (by unfold conFlN; push_cast; rfl)
def sizeN (v : Int) (p : Pk) : Nat := if rightP v p = true then 1 + (varL (restN v p)).length + restN v p else 0
set_option maxHeartbeats 4000000 in
theorem size_any8 (v : Int) (p : Pk) (s : Sl) (w : World) (hp : p.At s w) (hF : Fit p) (hT : Tabs w) :
  Calls Tryz.prog 20 #[.int .i64 v, p.val s] w fun e w' => e = .returned (.int .i64 (sizeN v p : Int)) ∧ Kept No w w' := by
 let RR : Ending → World → Prop := fun e w' => e = .returned (.int .i64 (sizeN v p : Int)) ∧ Kept No w w'
 go_enter Tryz.func20, Tryz.ntmps20
 generalize hA : ({ tmps := _, defers := [] } : Act) = A
 have F : Fr A 19 [(1, (Pk.val p s)), (0, (.int .i64 v))] := by rw [← hA]; exact (Fr.cons (i := 1) (v := (Pk.val p s)) (Fr.cons (i := 0) (v := (.int .i64 v)) (Fr.nil0 rfl rfl) rfl) rfl)
 clear hA; have H := Hp.start w
 refine wp_seq_k (fun K1 hK1 => gx_region ?_)
 refine hz_new (c := (Pk.cells p s)) (t := 33) F H rfl (ex_box rfl (F.e rfl) (gx_box _ _)) ?_; clear F A; intro b2 W A hk hN H9 F; clear H; have H := H9; clear H9
 clear hk hN
 refine zd ?_; intro A F
 refine wpList_nil (hK1 _ _ ?_)
 refine wp_seq_k (fun K3 hK3 => ?_)
 refine wp_seq_k (fun K4 hK4 => gx_region ?_)
 refine zd ?_; intro A F
 refine hz_do F rfl (ex_load rfl (F.e rfl) (gl_agg ((Pk.cells p s)) rfl (ga_33 _) (gs_33 _) (fun i => H.cs 0 rfl i))) ?_; intro A F
 refine hz_callk F H rfl (ex_call rfl rfl (gx_l1 (F.e rfl) (gx_l1 (F.e rfl) gx_l0)) fn_47) (pkRight_any v p s _ (hp.kept H.k) hF (hT.kept H.k)) ?_; clear F H A; intro W A hk H F
 clear hk
 refine zd ?_; intro A F
 refine wpList_nil (hK4 _ _ ?_)
 refine zc (fun hb6 => ?_) (fun hb6 => ?_)
 ·skip
  refine wp_seq_k (fun K7 hK7 => gx_region ?_)
  refine zd ?_; intro A F
  refine wpList_nil (hK7 _ _ ?_)
  refine gx_ret ?_
  refine (show bodyPost _ Tryz.f20 RR Exit.ret _ _ from zr ?_)
  exact ri (by unfold sizeN; rw [if_neg (by have := hb6; intro h9; rw [h9] at this; cases this)]; rfl)
 refine wp_skip (hK3 _ _ ?_)
 refine wp_seq_k (fun K8 hK8 => gx_region ?_)
 refine zd ?_; intro A F
 refine hz_do F rfl (ex_load rfl (F.e rfl) (gl_agg ((Pk.cells p s)) rfl (ga_33 _) (gs_33 _) (fun i => H.cs 0 rfl i))) ?_; intro A F
 have hRi := right_ri (gnz hb6); have hrs := hRi.rest; have hvl := varL_le (restN v p)
 refine hz_callk F H rfl (ex_call rfl rfl (gx_l1 (F.e rfl) (gx_l1 (F.e rfl) gx_l0)) fn_26) (Rest_any v p s _ (hp.kept H.k) hF (hT.kept H.k) hRi.filt) ?_; clear F H A; intro W A hk H F
 clear hk
 refine zd ?_; intro A F
 refine wpList_nil (hK8 _ _ ?_)
 refine wp_seq_k (fun K10 hK10 => gx_region ?_)
 refine zd ?_; intro A F
 refine hz_do (v := (.int .u32 ((restN v p : Int)))) F rfl (ex_conv rfl (F.e rfl) (cvI32 (restN v p) _ (by omega))) ?_; intro A F
 refine hz_callk F H rfl (ex_call rfl rfl (gx_l1 (F.e rfl) gx_l0) fn_48) ((varL_size (restN v p) (by omega) _).mono fun e9 ww h9 => ⟨h9.1, h9.2 ▸ Kept.refl No _⟩) ?_; clear F H A; intro W A hk H F
 clear hk
 refine hz_do F rfl (ex_bin rfl gx_evc (F.e rfl) (rn_add (gx_wrap_i64 (by omega) (by omega)))) ?_; intro A F
 refine zd ?_; intro A F
 refine hz_do F rfl (ex_bin rfl (F.e rfl) (F.e rfl) (rn_add (gx_wrap_i64 (by omega) (by omega)))) ?_; intro A F
 refine zd ?_; intro A F
 refine wpList_nil (hK10 _ _ ?_)
 refine gx_ret ?_
 refine (show bodyPost _ Tryz.f20 RR Exit.ret _ _ from zr ?_)
 exact ri (by unfold sizeN; rw [if_pos (gnz hb6)]; push_cast; rfl)
set_option maxHeartbeats 4000000 in
theorem short_any8 (w0 w : World) (f : Nat) (v : Int) (k : Nat) (l : List UInt8) (H : Hp w0 w []) (hZ : Fm w0 w f v k l) (p : Pk) (s : Sl) (hp : p.At s w0) (hF : Fit p) (hR : Ri v p) (hT : Tabs w0) (hk : k ≤ 120000) :
  Calls Tryz.prog 100 #[.pointer (some ⟨f, 0, none⟩), p.val s] w fun e w' => ∃ u, e = .returned u ∧ FmP w0 w f v (k + 100) (l ++ shortB v p) u w' := by
 replace hZ := hZ.start
 have HB := H; clear H
 let RR : Ending → World → Prop := fun e w' => ∃ u, e = .returned u ∧ FmP w0 w f v (k + 100) (l ++ shortB v p) u w'
 go_enter Tryz.func100, Tryz.ntmps100
 generalize hA : ({ tmps := _, defers := [] } : Act) = A
 have F : Fr A 32 [(1, (Pk.val p s)), (0, (.pointer (some ⟨f, 0, none⟩)))] := by rw [← hA]; exact (Fr.cons (i := 1) (v := (Pk.val p s)) (Fr.cons (i := 0) (v := (.pointer (some ⟨f, 0, none⟩))) (Fr.nil0 rfl rfl) rfl) rfl)
 clear hA; have H := HB; clear HB
 refine wp_seq_k (fun K1 hK1 => gx_region ?_)
 refine hz_new (c := (Pk.cells p s)) (t := 33) F H rfl (ex_box rfl (F.e rfl) (gx_box _ _)) ?_; clear F A; intro b2 W A hk hN H9 F; clear H; have H := H9; clear H9
 have hN_hZ_b2 := Nat.le_trans hZ.k.size hN
 replace hZ := hZ.no hk
 clear hk hN
 refine wpList_nil (hK1 _ _ ?_)
 refine wp_seq_k (fun K3 hK3 => ?_)
 refine wp_seq_k (fun K4 hK4 => gx_region ?_)
 refine zd ?_; intro A F
 refine hz_do F rfl (ex_nil rfl (F.e rfl)) ?_; intro A F
 refine hz_fld F rfl rfl (F.e rfl) (fa_90_0 _ _ _) (ag_3 _) hZ.cell ?_; intro A F
 refine zb (rn_eql) ?_; intro A F
 refine zd ?_; intro A F
 iterate 2 (refine zg ?_; intro A F)
 refine zgb (rn_eqlN (i := p.code) (j := 0)) ?_; intro A F
 iterate 3 (refine zg ?_; intro A F)
 refine hz_g F rfl (hw_ot F rfl rfl rfl) (fun hG => (ex_len rfl (gx_l1 (F.o rfl hG) gx_l0) (rn_lens Tryz.underlying30))) ?_; intro A F
 refine zgb (rn_eqlN (i := p.props.length) (j := 0)) ?_; intro A F
 refine zg ?_; intro A F
 refine hz_do F rfl (ex_pickO rfl (F.e rfl) (fun hx => (F.o rfl (gnt hx))) rfl) ?_; intro A F
 refine wpList_nil (hK4 _ _ ?_)
 refine zc (fun hb5 => ?_) (fun hb5 => ?_)
 ·skip
  replace F := ((F.nil.cons (F.g 3 _ rfl)).cons (F.g 0 _ rfl))
  refine gx_ret ?_
  refine (show bodyPost _ Tryz.f100 RR Exit.ret _ _ from zr0 ?_)
  exact ⟨_, rfl, rfl, hZ.is (by have := hb5; simp only [Bool.or_eq_true, Bool.and_eq_true, Bool.or_eq_false_iff, Bool.and_eq_false_iff, Bool.not_eq_true', Bool.not_eq_false', decide_eq_true_eq, decide_eq_false_iff_not] at *; unfold shortB; (repeat' split) <;> first | rfl | (simp only [List.append_nil]; done) | (simp only [List.append_assoc]; done) | (exfalso; omega)) (by omega)⟩
 replace F := ((F.nil.cons (F.g 3 _ rfl)).cons (F.g 0 _ rfl))
 refine wp_skip (hK3 _ _ ?_)
 refine wp_seq_k (fun K6 hK6 => gx_region ?_)
 iterate 3 (refine zd ?_; intro A F)
 refine hz_callR (FmP w0 _ f v (k + 1) (l ++ by1 p.code)) F rfl (ex_call rfl rfl (gx_l1 (F.e rfl) (gx_l1 (F.e rfl) gx_l0)) fn_42) (one_any8 w0 _ f v _ _ ⟨H.k, trivial⟩ hZ.m p.code (by have := hF.id; have := hF.code; have := hF.keep; have := bitN_le p.present 1; omega) (by omega)) (fun _ _ h => H.formed hZ h.2 (fa1 ⟨(show 33 ≠ 5 by decide), (show 33 ≠ 90 by decide)⟩ ft0)) ?_; clear F H A; intro vv W A hR H F; obtain ⟨rfl, hZ9⟩ := hR
 replace hZ := hZ.step hZ9; clear hZ9
 refine wpList_nil (hK6 _ _ ?_)
 refine wp_seq_k (fun K8 hK8 => gx_region ?_)
 iterate 2 (refine zd ?_; intro A F)
 refine hz_do F rfl (ex_len rfl (gx_l1 (F.e rfl) gx_l0) (rn_lens Tryz.underlying30)) ?_; intro A F
 refine zb (rn_neqN (i := p.props.length) (j := 0)) ?_; intro A F
 refine wpList_nil (hK8 _ _ ?_)
 refine zc (fun hb9 => ?_) (fun hb9 => ?_)
 ·skip
  refine gx_region ?_
  iterate 3 (refine zd ?_; intro A F)
  refine hz_callR (FmP w0 _ f v ((k + 1) + 1) ((l ++ by1 p.code) ++ secB v p.props)) F rfl (ex_call rfl rfl (gx_l1 (F.e rfl) (gx_l1 (F.e rfl) gx_l0)) fn_97) (section_any8 w0 _ f v _ _ ⟨H.k, trivial⟩ hZ.m p.props s.pa s.pc hp.hp hF.few.hp hF.wf.p hR.hv hT (by omega)) (fun _ _ h => H.formed hZ h.2 (fa1 ⟨(show 33 ≠ 5 by decide), (show 33 ≠ 90 by decide)⟩ ft0)) ?_; clear F H A; intro vv W A hR H F; obtain ⟨rfl, hZ9⟩ := hR
  replace hZ := hZ.step hZ9; clear hZ9
  refine wpList_nil ?_
  refine (show bodyPost _ Tryz.f100 RR Exit.normal _ _ from zn0 ?_)
  exact ⟨_, rfl, rfl, hZ.is (by have := hb5;  have := hb9; simp only [Bool.or_eq_true, Bool.and_eq_true, Bool.or_eq_false_iff, Bool.and_eq_false_iff, Bool.not_eq_true', Bool.not_eq_false', decide_eq_true_eq, decide_eq_false_iff_not] at *; unfold shortB; (repeat' split) <;> first | rfl | (simp only [List.append_nil]; done) | (simp only [List.append_assoc]; done) | (exfalso; omega)) (by omega)⟩
 refine wp_skip ?_
 refine (show bodyPost _ Tryz.f100 RR Exit.normal _ _ from zn0 ?_)
 exact ⟨_, rfl, rfl, hZ.is (by have := hb5;  have := hb9; simp only [Bool.or_eq_true, Bool.and_eq_true, Bool.or_eq_false_iff, Bool.and_eq_false_iff, Bool.not_eq_true', Bool.not_eq_false', decide_eq_true_eq, decide_eq_false_iff_not] at *; unfold shortB; (repeat' split) <;> first | rfl | (simp only [List.append_nil]; done) | (simp only [List.append_assoc]; done) | (exfalso; omega)) (by omega)⟩
set_option maxHeartbeats 4000000 in
theorem publish_any8 (w0 w : World) (f : Nat) (v : Int) (k : Nat) (l : List UInt8) (H : Hp w0 w []) (hZ : Fm w0 w f v k l) (p : Pk) (s : Sl) (hp : p.At s w0) (hF : Fit p) (hR : Ri v p) (hT : Tabs w0) (hld : p.load.size ≤ 268435455) (hk : k ≤ 120000) :
  Calls Tryz.prog 98 #[.pointer (some ⟨f, 0, none⟩), p.val s] w fun e w' => ∃ u, e = .returned u ∧ FmP w0 w f v (k + 100) (l ++ publB v p) u w' := by
 replace hZ := hZ.start
 have HB := H; clear H
 let RR : Ending → World → Prop := fun e w' => ∃ u, e = .returned u ∧ FmP w0 w f v (k + 100) (l ++ publB v p) u w'
 go_enter Tryz.func98, Tryz.ntmps98
 generalize hA : ({ tmps := _, defers := [] } : Act) = A
 have F : Fr A 29 [(1, (Pk.val p s)), (0, (.pointer (some ⟨f, 0, none⟩)))] := by rw [← hA]; exact (Fr.cons (i := 1) (v := (Pk.val p s)) (Fr.cons (i := 0) (v := (.pointer (some ⟨f, 0, none⟩))) (Fr.nil0 rfl rfl) rfl) rfl)
 clear hA; have H := HB; clear HB
 refine wp_seq_k (fun K1 hK1 => gx_region ?_)
 refine hz_new (c := (Pk.cells p s)) (t := 33) F H rfl (ex_box rfl (F.e rfl) (gx_box _ _)) ?_; clear F A; intro b2 W A hk hN H9 F; clear H; have H := H9; clear H9
 have hN_hZ_b2 := Nat.le_trans hZ.k.size hN
 replace hZ := hZ.no hk
 clear hk hN
 refine wpList_nil (hK1 _ _ ?_)
 refine wp_seq_k (fun K3 hK3 => gx_region ?_)
 iterate 3 (refine zd ?_; intro A F)
 refine hz_callR (FmP w0 _ f v (k + 1) (l ++ binBy p.topic)) F rfl (ex_call rfl rfl (gx_l1 (F.e rfl) (gx_l1 (F.e rfl) gx_l0)) fn_134) (bin_any8 w0 _ f v _ _ ⟨H.k, trivial⟩ hZ.m p.topic (by exact hR.topic) (by omega)) (fun _ _ h => H.formed hZ h.2 (fa1 ⟨(show 33 ≠ 5 by decide), (show 33 ≠ 90 by decide)⟩ ft0)) ?_; clear F H A; intro vv W A hR H F; obtain ⟨rfl, hZ9⟩ := hR
 replace hZ := hZ.step hZ9; clear hZ9
 refine wpList_nil (hK3 _ _ ?_)
 refine hz_cut (fun A W => Fr A 29 [(0, (.pointer (some ⟨f, 0, none⟩))), (3, (.pointer (some ⟨b2, 0, none⟩)))] ∧ Hp w0 W [⟨b2, 33, (Pk.cells p s)⟩] ∧ (FmK w0 w f v ((k + 1) + 10) ((l ++ binBy p.topic) ++ (if p.qos = 0 then [] else by2 p.id)) W)) (fun A W hM => ?_) (fun K5 hK5 => ?_)
 rotate_left
 ·skip
  refine wp_seq_k (fun K6 hK6 => gx_region ?_)
  iterate 2 (refine zd ?_; intro A F)
  refine zb (rn_neqN (i := p.qos) (j := 0)) ?_; intro A F
  refine wpList_nil (hK6 _ _ ?_)
  refine zc (fun hb7 => ?_) (fun hb7 => ?_)
  ·skip
   refine gx_region ?_
   iterate 3 (refine zd ?_; intro A F)
   refine hz_callR (FmP w0 _ f v ((k + 1) + 1) ((l ++ binBy p.topic) ++ by2 p.id)) F rfl (ex_call rfl rfl (gx_l1 (F.e rfl) (gx_l1 (F.e rfl) gx_l0)) fn_99) (two_any8 w0 _ f v _ _ ⟨H.k, trivial⟩ hZ.m p.id (by have := hF.id; have := hF.code; have := hF.keep; have := bitN_le p.present 1; omega) (by omega)) (fun _ _ h => H.formed hZ h.2 (fa1 ⟨(show 33 ≠ 5 by decide), (show 33 ≠ 90 by decide)⟩ ft0)) ?_; clear F H A; intro vv W A hR H F; obtain ⟨rfl, hZ9⟩ := hR
   replace hZ := hZ.step hZ9; clear hZ9
   refine wpList_nil ?_
   exact hK5 _ _ ⟨((F.nil.cons (F.g 3 _ rfl)).cons (F.g 0 _ rfl)), H, (hZ.is (by have := hb7; simp only [Bool.not_eq_true', Bool.not_eq_false', decide_eq_true_eq, decide_eq_false_iff_not] at this; simp [this]) (by omega))⟩
  refine wp_skip ?_
  exact hK5 _ _ ⟨((F.nil.cons (F.g 3 _ rfl)).cons (F.g 0 _ rfl)), H, (hZ.is (by have := hb7; simp only [Bool.not_eq_true', Bool.not_eq_false', decide_eq_true_eq, decide_eq_false_iff_not] at this; simp [this]) (by omega))⟩
 clear F H; obtain ⟨F, H, hZ⟩ := hM
 refine wp_seq_k (fun K9 hK9 => gx_region ?_)
 iterate 3 (refine zd ?_; intro A F)
 refine hz_callR (FmP w0 _ f v (((k + 1) + 10) + 1) ((l ++ binBy p.topic) ++ (if p.qos = 0 then [] else by2 p.id) ++ secB v p.props)) F rfl (ex_call rfl rfl (gx_l1 (F.e rfl) (gx_l1 (F.e rfl) gx_l0)) fn_97) (section_any8 w0 _ f v _ _ ⟨H.k, trivial⟩ hZ.m p.props s.pa s.pc hp.hp hF.few.hp hF.wf.p hR.hv hT (by omega)) (fun _ _ h => H.formed hZ h.2 (fa1 ⟨(show 33 ≠ 5 by decide), (show 33 ≠ 90 by decide)⟩ ft0)) ?_; clear F H A; intro vv W A hR H F; obtain ⟨rfl, hZ9⟩ := hR
 replace hZ := hZ.step hZ9; clear hZ9
 refine wpList_nil (hK9 _ _ ?_)
 refine wp_region_held_drew (S := fun wx => Hp _ wx _) (by kernel_rfl) H.drew (fun H9 => ?_); clear H; have H := H9; clear H9
 replace hZ := hZ.no (Kept.refl No _).drew
 generalize World.drew _ = W at *
 refine td 0 ?_; intro A F
 refine td 1 ?_; intro A F
 refine hzh_do (i := 2) F rfl rfl (by kernel_rfl) (fun _ _ _ h => h) (H) (fun wz H => (ex_nil rfl (F.e rfl))) ?_; intro A F
 refine td 3 ?_; intro A F
 refine td 5 ?_; intro A F
 refine td 6 ?_; intro A F
 obtain ⟨⟨a, c, hB, hO, hf, hl⟩, hZk⟩ := hZ
 have hlm : (((l ++ binBy p.topic) ++ (if p.qos = 0 then [] else by2 p.id) ++ secB v p.props)).length + p.load.size ≤ 140737000000000 := by omega
 refine hb_one (i := 4) (by kernel_rfl) (hb_new (v := (.slice a ((((l ++ binBy p.topic) ++ (if p.qos = 0 then [] else by2 p.id) ++ secB v p.props)).length) c)) (i := 4) F rfl rfl (ex_load rfl (F.e rfl) (gl_one (ag_25 _) (hB.cell 1))) (H) ?_); intro A F
 obtain ⟨v9, W9, hrun, hO9, hg⟩ := app_str hO p.load hlm H.size
 have hkS := kept_grown hg; obtain ⟨a9, c9, hv9⟩ := own_slice hO9; subst hv9
 have hty : ∀ y ∈ [(⟨b2, 33, (Pk.cells p s)⟩ : Bk)], ¬ Sv _ y.b := (fa1 (sv_type hO (H.b.at_ (j := 0) rfl).1 (show 33 ≠ 5 by decide)) fa0)
 replace H := Hp.grown H hO hkS hty
 replace hB := hB.kept hkS (sv_type hO hB (show 90 ≠ 5 by decide))
 replace hZk := hZk.then hkS (fun i hi e => by have q := own_typed hO e; have q2 := (hO.lt i e).1; by_cases hX : Ft w0 w f i; exact hX; exact .inr ⟨q2, by obtain ⟨cs, q⟩ := q; exact ⟨cs, by unfold Blk at q ⊢; rw [← hZk.block i hi hX]; exact q⟩⟩)
 refine hb_one (i := 7) (by kernel_rfl) (hb_new (i := 7) F rfl rfl (ex_builtin rfl (gx_l1 (F.e rfl) (gx_l1 (F.e rfl) gx_l0)) (fun cs => by simp only [builtin]; exact gx_val hrun)) (H) ?_); intro A F
 refine hzh_do (i := 8) F rfl rfl (by kernel_rfl) (fun _ _ _ h => h) (H) (fun wz H => (ex_nil rfl (F.e rfl))) ?_; intro A F
 refine td 9 ?_; intro A F
 obtain ⟨W8, hr8, hB8, hk8⟩ := gx_set (P := Tryz.prog) (T := 25) (i := 1) (v := .slice a9 (((l ++ binBy p.topic) ++ (if p.qos = 0 then [] else by2 p.id) ++ secB v p.props) ++ p.load.data.toList).length c9) (c' := #[.int .i64 v, .slice a9 (((l ++ binBy p.topic) ++ (if p.qos = 0 then [] else by2 p.id) ++ secB v p.props) ++ p.load.data.toList).length c9]) _ hB (gs1_25 _) rfl (by simp) rfl
 have hO8 := og_far hO9 hB (show 90 ≠ 5 by decide) hk8
 replace hZk := hZk.then hk8 (fun i hi e => .inl e)
 have H8 : Hp w0 W8 [⟨b2, 33, (Pk.cells p s)⟩] := ⟨H.k.then hk8 (fun i hi e => by have e : i = f := e; omega), H.b.formed hk8 (fa1 (fun hY e => absurd (blk_one hY (show Blk _ _ 90 _ from by have e : _ = f := e; rw [e]; exact hB)) (show 33 ≠ 90 by decide)) ft0)⟩
 refine hb_one (i := 10) (by kernel_rfl) (hb_st (i := 10) rfl (ex_store rfl (F.e rfl) (F.e rfl) hr8) (H8) ?_); clear H; have H := H8; clear H8
 refine wpAnyH_done (by kernel_rfl) ?_ _
 refine (show bodyPost _ Tryz.f98 RR Exit.normal _ _ from zn0 ?_)
 exact ⟨_, rfl, rfl, FmK.is (l := ((l ++ binBy p.topic) ++ (if p.qos = 0 then [] else by2 p.id) ++ secB v p.props) ++ p.load.data.toList) (k := k + 50) ⟨⟨a9, c9, hB8, hO8, hf, by have e : p.load.data.toList.length = p.load.size := (by rw [Array.length_toList]; rfl); rw [List.length_append, e]; omega⟩, hZk⟩ (by unfold publB; simp only [List.append_assoc]) (by omega)⟩
theorem filtB_app (k : Int) : ∀ L M : List Fi, filtB k (L ++ M) = filtB k L ++ filtB k M
 | [], M => rfl
 | f :: l, M => by rw [List.cons_append, filtB, filtB, filtB_app k l M]; simp only [List.append_assoc]
theorem filtB_snoc {k : Int} {L : List Fi} {j : Nat} (h : j < L.length) : filtB k (L.take (j + 1)) = filtB k (L.take j) ++ (binBy L[j].text ++ (if k = 8 then by1 L[j].opt else [])) := by
 rw [List.take_succ_eq_append_getElem h, filtB_app, filtB, filtB, List.append_nil]
set_option maxHeartbeats 4000000 in
theorem filters_any8 (w0 w : World) (f : Nat) (v : Int) (k : Nat) (l : List UInt8) (H : Hp w0 w []) (hZ : Fm w0 w f v k l) (p : Pk) (s : Sl) (hp : p.At s w0) (hF : Fit p) (hR : Ri v p) (hT : Tabs w0) (hk : k ≤ 90000) :
  Calls Tryz.prog 101 #[.pointer (some ⟨f, 0, none⟩), p.val s] w fun e w' => ∃ u, e = .returned u ∧ FmP w0 w f v (k + 31000) (l ++ filtB p.kind p.filters) u w' := by
 replace hZ := hZ.start
 have HB := H; clear H
 let RR : Ending → World → Prop := fun e w' => ∃ u, e = .returned u ∧ FmP w0 w f v (k + 31000) (l ++ filtB p.kind p.filters) u w'
 go_enter Tryz.func101, Tryz.ntmps101
 generalize hA : ({ tmps := _, defers := [] } : Act) = A
 have F : Fr A 25 [(1, (Pk.val p s)), (0, (.pointer (some ⟨f, 0, none⟩)))] := by rw [← hA]; exact (Fr.cons (i := 1) (v := (Pk.val p s)) (Fr.cons (i := 0) (v := (.pointer (some ⟨f, 0, none⟩))) (Fr.nil0 rfl rfl) rfl) rfl)
 clear hA; have H := HB; clear HB
 refine wp_seq_k (fun K1 hK1 => gx_region ?_)
 refine hz_new (c := (Pk.cells p s)) (t := 33) F H rfl (ex_box rfl (F.e rfl) (gx_box _ _)) ?_; clear F A; intro b2 W A hk hN H9 F; clear H; have H := H9; clear H9
 have hN_hZ_b2 := Nat.le_trans hZ.k.size hN
 replace hZ := hZ.no hk
 clear hk hN
 refine wpList_nil (hK1 _ _ ?_)
 refine wp_seq_k (fun K3 hK3 => gx_region ?_)
 iterate 2 (refine zd ?_; intro A F)
 refine hz_do F rfl (ex_len rfl (gx_l1 (F.e rfl) gx_l0) (rn_lens Tryz.underlying31)) ?_; intro A F
 refine zd ?_; intro A F
 refine wpList_nil (hK3 _ _ ?_)
 refine wp_block ?_
 refine hz_loop (fun (j : Nat) A W => Fr A 25 [(0, (.pointer (some ⟨f, 0, none⟩))), (3, (.pointer (some ⟨b2, 0, none⟩))), (7, (.slice s.fa p.filters.length s.fc)), (8, (.int .i64 ((p.filters.length : Int)))), (9, (.int .i64 ((j : Int))))] ∧ Hp w0 W [⟨b2, 33, (Pk.cells p s)⟩] ∧ (j ≤ p.filters.length) ∧ (FmK w0 w f v (k + 30 * j) (l ++ filtB p.kind (p.filters.take j)) W)) (fun j => p.filters.length - j) 0 ⟨(((((F.nil.cons (gx_is (F.g 9 _ rfl) (by rfl))).cons (F.g 8 _ rfl)).cons (F.g 7 _ rfl)).cons (F.g 3 _ rfl)).cons (F.g 0 _ rfl)), H, by omega, hZ.is (by simp [filtB]) (by omega)⟩ (fun j A W hI J4 hJ4 => ?_)
 clear F H; obtain ⟨F, H, hj, hZ⟩ := hI
 have hnf := hR.nf
 refine wp_seq_k (fun K5 hK5 => gx_region ?_)
 refine zb (rn_lssN (i := j) (j := p.filters.length)) ?_; intro A F
 refine wpList_nil (hK5 _ _ ?_)
 refine wp_seq_k (fun K6 hK6 => ?_)
 refine zc (fun hb7 => ?_) (fun hb7 => ?_)
 ·skip
  refine wp_skip (hK6 _ _ ?_)
  refine wp_seq_k (fun K8 hK8 => ?_)
  refine wp_block ?_
  refine wp_seq_k (fun K9 hK9 => gx_region ?_)
  have hlt : j < p.filters.length := of_decide_eq_true hb7
  obtain ⟨b9, off9, ha9, hbl9, q0, q1⟩ := (hp.kept H.k).hf.filt hlt
  have hfm := List.getElem_mem hlt; have hf1 := hR.filt _ hfm; have hf2 := hF.opt _ hfm; obtain ⟨x9, hx9⟩ : ∃ x9, x9 = p.filters[j] := ⟨_, rfl⟩; rw [← hx9] at q0 q1 hf1 hf2
  refine hz_do F rfl (ex_idxaddr rfl ((F.e rfl).trans (show _ = Value.slice (some ⟨b9, off9, none⟩) p.filters.length s.fc from by first | (rw [← ha9]; done) | (rw [← ha9]; rfl))) (F.e rfl) (rn_idx Tryz.underlying31 (gs_88 _) hlt)) ?_; intro A F
  refine hz_do (v := (.agg #[(.string x9.text), (.int .u8 ((x9.opt : Int)))])) F rfl (ex_load rfl (F.e rfl) (gl_agg2 (ga_88 _) (gs_88 _) q0 q1)) ?_; intro A F
  refine hz_new (c := #[(.string ⟨#[]⟩), (.int .u8 0)]) (t := 88) F H rfl (ex_alloc rfl (al_88 _)) ?_; clear F A; intro b10 W A hk hN H9 F; clear H; have H := H9; clear H9
  have hN_hZ_b10 := Nat.le_trans hZ.k.size hN
  replace hZ := hZ.no hk
  clear hk hN
  obtain ⟨W9, hr, hB, hk⟩ := gx_storeAgg (P := Tryz.prog) (S := 88) (c := #[(.string x9.text), (.int .u8 ((x9.opt : Int)))]) _ (H.b.at_ (j := 0) rfl).1 (gs_88 _) rfl (by simp [Value.oneCell'])
  replace hZ := hZ.st (H.b.at_ (j := 0) rfl).1 (show 88 ≠ _ by decide) (show 88 ≠ _ by decide) hN_hZ_b10 hk
  refine hz_st (ex_store rfl (F.e rfl) (F.e rfl) hr) ?_; clear hr; replace H : Hp _ _ [_, _] := Hp.turn [] H hk hB; clear hk hB
  refine wpList_nil (hK9 _ _ ?_)
  refine wp_seq_k (fun K11 hK11 => gx_region ?_)
  iterate 3 (refine zd ?_; intro A F)
  refine hz_callR (FmP w0 _ f v ((k + 30 * j) + 1) ((l ++ filtB p.kind (p.filters.take j)) ++ binBy x9.text)) F rfl (ex_call rfl rfl (gx_l1 (F.e rfl) (gx_l1 (F.e rfl) gx_l0)) fn_134) (bin_any8 w0 _ f v _ _ ⟨H.k, trivial⟩ hZ.m x9.text (by exact hf1) (by omega)) (fun _ _ h => H.formed hZ h.2 (fa1 ⟨(show 88 ≠ 5 by decide), (show 88 ≠ 90 by decide)⟩ (fa1 ⟨(show 33 ≠ 5 by decide), (show 33 ≠ 90 by decide)⟩ ft0))) ?_; clear F H A; intro vv W A hR H F; obtain ⟨rfl, hZ9⟩ := hR
  replace hZ := hZ.step hZ9; clear hZ9
  refine wpList_nil (hK11 _ _ ?_)
  refine wp_seq_k (fun K13 hK13 => gx_region ?_)
  iterate 2 (refine zd ?_; intro A F)
  refine zb (rn_eql) ?_; intro A F
  refine wpList_nil (hK13 _ _ ?_)
  refine zc (fun hb14 => ?_) (fun hb14 => ?_)
  ·skip
   refine gx_region ?_
   iterate 3 (refine zd ?_; intro A F)
   refine hz_callR (FmP w0 _ f v (((k + 30 * j) + 1) + 1) (((l ++ filtB p.kind (p.filters.take j)) ++ binBy x9.text) ++ by1 x9.opt)) F rfl (ex_call rfl rfl (gx_l1 (F.e rfl) (gx_l1 (F.e rfl) gx_l0)) fn_42) (one_any8 w0 _ f v _ _ ⟨H.k, trivial⟩ hZ.m x9.opt (by omega) (by omega)) (fun _ _ h => H.formed hZ h.2 (fa1 ⟨(show 88 ≠ 5 by decide), (show 88 ≠ 90 by decide)⟩ (fa1 ⟨(show 33 ≠ 5 by decide), (show 33 ≠ 90 by decide)⟩ ft0))) ?_; clear F H A; intro vv W A hR H F; obtain ⟨rfl, hZ9⟩ := hR
   replace hZ := hZ.step hZ9; clear hZ9
   refine wpList_nil (hK8 _ _ ?_)
   refine gx_region ?_
   refine hz_do F rfl (ex_bin rfl (F.e rfl) gx_evc (rn_add (gx_wrap_i64 (by omega) (by omega)))) ?_; intro A F
   refine zd ?_; intro A F
   refine wpList_nil ?_
   exact hJ4 ((j + 1)) _ _ (by omega) ⟨(((((F.nil.cons (gx_is (F.g 9 _ rfl) (by simp))).cons (F.g 8 _ rfl)).cons (F.g 7 _ rfl)).cons (F.g 3 _ rfl)).cons (F.g 0 _ rfl)), H.tl, by omega, hZ.is (by have h8 := hb14; simp only [decide_eq_true_eq, decide_eq_false_iff_not] at h8; rw [filtB_snoc hlt, ← hx9]; first | (rw [if_pos h8]; simp only [List.append_assoc]; done) | (rw [if_neg h8]; simp only [List.append_assoc, List.append_nil]; done)) (by omega)⟩
  refine wp_skip (hK8 _ _ ?_)
  refine gx_region ?_
  refine hz_do F rfl (ex_bin rfl (F.e rfl) gx_evc (rn_add (gx_wrap_i64 (by omega) (by omega)))) ?_; intro A F
  refine zd ?_; intro A F
  refine wpList_nil ?_
  exact hJ4 ((j + 1)) _ _ (by omega) ⟨(((((F.nil.cons (gx_is (F.g 9 _ rfl) (by simp))).cons (F.g 8 _ rfl)).cons (F.g 7 _ rfl)).cons (F.g 3 _ rfl)).cons (F.g 0 _ rfl)), H.tl, by omega, hZ.is (by have h8 := hb14; simp only [decide_eq_true_eq, decide_eq_false_iff_not] at h8; rw [filtB_snoc hlt, ← hx9]; first | (rw [if_pos h8]; simp only [List.append_assoc]; done) | (rw [if_neg h8]; simp only [List.append_assoc, List.append_nil]; done)) (by omega)⟩
 refine wp_exit ?_
 refine (show bodyPost _ Tryz.f101 RR Exit.normal _ _ from zn0 ?_)
 exact ⟨_, rfl, rfl, hZ.is (by rw [List.take_of_length_le (by have h8 := of_decide_eq_false hb7; omega)]) (by omega)⟩
set_option maxHeartbeats 4000000 in
theorem connect_any8 (w0 w : World) (f : Nat) (v : Int) (k : Nat) (l : List UInt8) (H : Hp w0 w []) (hZ : Fm w0 w f v k l) (p : Pk) (s : Sl) (hp : p.At s w0) (hF : Fit p) (hR : Ri v p) (hT : Tabs w0) (hk : k ≤ 120000) :
  Calls Tryz.prog 96 #[.pointer (some ⟨f, 0, none⟩), p.val s] w fun e w' => ∃ u, e = .returned u ∧ FmP w0 w f v (k + 100) (l ++ connB v p) u w' := by
 replace hZ := hZ.start
 have hv := hR.hv
 have HB := H; clear H
 let RR : Ending → World → Prop := fun e w' => ∃ u, e = .returned u ∧ FmP w0 w f v (k + 100) (l ++ connB v p) u w'
 go_enter Tryz.func96, Tryz.ntmps96
 generalize hA : ({ tmps := _, defers := [] } : Act) = A
 have F : Fr A 55 [(1, (Pk.val p s)), (0, (.pointer (some ⟨f, 0, none⟩)))] := by rw [← hA]; exact (Fr.cons (i := 1) (v := (Pk.val p s)) (Fr.cons (i := 0) (v := (.pointer (some ⟨f, 0, none⟩))) (Fr.nil0 rfl rfl) rfl) rfl)
 clear hA; have H := HB; clear HB
 refine wp_seq_k (fun K1 hK1 => gx_region ?_)
 refine hz_new (c := (Pk.cells p s)) (t := 33) F H rfl (ex_box rfl (F.e rfl) (gx_box _ _)) ?_; clear F A; intro b2 W A hk hN H9 F; clear H; have H := H9; clear H9
 have hN_hZ_b2 := Nat.le_trans hZ.k.size hN
 replace hZ := hZ.no hk
 clear hk hN
 refine wpList_nil (hK1 _ _ ?_)
 refine wp_seq_k (fun K3 hK3 => gx_region ?_)
 refine zd ?_; intro A F
 refine hz_callR (FmP w0 _ f v (k + 1) (l ++ binBy (⟨#[77, 81, 84, 84]⟩))) F rfl (ex_call rfl rfl (gx_l1 (F.e rfl) (gx_l1 gx_evc gx_l0)) fn_134) (bin_any8 w0 _ f v _ _ ⟨H.k, trivial⟩ hZ.m (⟨#[77, 81, 84, 84]⟩) (by first | (unfold mqtt; decide) | decide) (by omega)) (fun _ _ h => H.formed hZ h.2 (fa1 ⟨(show 33 ≠ 5 by decide), (show 33 ≠ 90 by decide)⟩ ft0)) ?_; clear F H A; intro vv W A hR H F; obtain ⟨rfl, hZ9⟩ := hR
 replace hZ := hZ.step hZ9; clear hZ9
 refine wpList_nil (hK3 _ _ ?_)
 refine wp_seq_k (fun K5 hK5 => gx_region ?_)
 iterate 2 (refine zd ?_; intro A F)
 refine hz_do F rfl (ex_nil rfl (F.e rfl)) ?_; intro A F
 refine hz_fld F rfl rfl (F.e rfl) (fa_90_0 _ _ _) (ag_3 _) hZ.cell ?_; intro A F
 refine hz_do (v := (.int .u8 ((v.toNat : Int)))) F rfl (ex_conv rfl (F.e rfl) (cvI8 v _ (by omega) (by omega))) ?_; intro A F
 refine hz_callR (FmP w0 _ f v ((k + 1) + 1) ((l ++ binBy (⟨#[77, 81, 84, 84]⟩)) ++ by1 v.toNat)) F rfl (ex_call rfl rfl (gx_l1 (F.e rfl) (gx_l1 (F.e rfl) gx_l0)) fn_42) (one_any8 w0 _ f v _ _ ⟨H.k, trivial⟩ hZ.m v.toNat (by have := hF.keep; have := conFlN_lt hR; omega) (by omega)) (fun _ _ h => H.formed hZ h.2 (fa1 ⟨(show 33 ≠ 5 by decide), (show 33 ≠ 90 by decide)⟩ ft0)) ?_; clear F H A; intro vv W A hR H F; obtain ⟨rfl, hZ9⟩ := hR
 replace hZ := hZ.step hZ9; clear hZ9
 refine wpList_nil (hK5 _ _ ?_)
 refine wp_seq_k (fun K7 hK7 => gx_region ?_)
 refine zd ?_; intro A F
 refine hz_do F rfl (ex_load rfl (F.e rfl) (gl_agg ((Pk.cells p s)) rfl (ga_33 _) (gs_33 _) (fun i => H.cs 0 rfl i))) ?_; intro A F
 refine hz_callk F H rfl (ex_call rfl rfl (gx_l1 (F.e rfl) gx_l0) fn_135) (conFlags_any v p s _ hR) ?_; clear F H A; intro W A hk H F
 replace hZ := hZ.no hk
 clear hk
 refine hz_callR (FmP w0 _ f v (((k + 1) + 1) + 1) (((l ++ binBy (⟨#[77, 81, 84, 84]⟩)) ++ by1 v.toNat) ++ by1 (conFlN p))) F rfl (ex_call rfl rfl (gx_l1 (F.e rfl) (gx_l1 (F.e rfl) gx_l0)) fn_42) (one_any8 w0 _ f v _ _ ⟨H.k, trivial⟩ hZ.m (conFlN p) (by have := hF.keep; have := conFlN_lt hR; omega) (by omega)) (fun _ _ h => H.formed hZ h.2 (fa1 ⟨(show 33 ≠ 5 by decide), (show 33 ≠ 90 by decide)⟩ ft0)) ?_; clear F H A; intro vv W A hR H F; obtain ⟨rfl, hZ9⟩ := hR
 replace hZ := hZ.step hZ9; clear hZ9
 refine wpList_nil (hK7 _ _ ?_)
 refine wp_seq_k (fun K10 hK10 => gx_region ?_)
 iterate 3 (refine zd ?_; intro A F)
 refine hz_callR (FmP w0 _ f v ((((k + 1) + 1) + 1) + 1) ((((l ++ binBy (⟨#[77, 81, 84, 84]⟩)) ++ by1 v.toNat) ++ by1 (conFlN p)) ++ by2 p.keep)) F rfl (ex_call rfl rfl (gx_l1 (F.e rfl) (gx_l1 (F.e rfl) gx_l0)) fn_99) (two_any8 w0 _ f v _ _ ⟨H.k, trivial⟩ hZ.m p.keep (by have := hF.keep; have := conFlN_lt hR; omega) (by omega)) (fun _ _ h => H.formed hZ h.2 (fa1 ⟨(show 33 ≠ 5 by decide), (show 33 ≠ 90 by decide)⟩ ft0)) ?_; clear F H A; intro vv W A hR H F; obtain ⟨rfl, hZ9⟩ := hR
 replace hZ := hZ.step hZ9; clear hZ9
 refine wpList_nil (hK10 _ _ ?_)
 refine wp_seq_k (fun K12 hK12 => gx_region ?_)
 iterate 3 (refine zd ?_; intro A F)
 refine hz_callR (FmP w0 _ f v (((((k + 1) + 1) + 1) + 1) + 1) (((((l ++ binBy (⟨#[77, 81, 84, 84]⟩)) ++ by1 v.toNat) ++ by1 (conFlN p)) ++ by2 p.keep) ++ secB v p.props)) F rfl (ex_call rfl rfl (gx_l1 (F.e rfl) (gx_l1 (F.e rfl) gx_l0)) fn_97) (section_any8 w0 _ f v _ _ ⟨H.k, trivial⟩ hZ.m p.props s.pa s.pc hp.hp hF.few.hp hF.wf.p hR.hv hT (by omega)) (fun _ _ h => H.formed hZ h.2 (fa1 ⟨(show 33 ≠ 5 by decide), (show 33 ≠ 90 by decide)⟩ ft0)) ?_; clear F H A; intro vv W A hR H F; obtain ⟨rfl, hZ9⟩ := hR
 replace hZ := hZ.step hZ9; clear hZ9
 refine wpList_nil (hK12 _ _ ?_)
 refine wp_seq_k (fun K14 hK14 => gx_region ?_)
 iterate 3 (refine zd ?_; intro A F)
 refine hz_callR (FmP w0 _ f v ((((((k + 1) + 1) + 1) + 1) + 1) + 1) ((((((l ++ binBy (⟨#[77, 81, 84, 84]⟩)) ++ by1 v.toNat) ++ by1 (conFlN p)) ++ by2 p.keep) ++ secB v p.props) ++ binBy p.client)) F rfl (ex_call rfl rfl (gx_l1 (F.e rfl) (gx_l1 (F.e rfl) gx_l0)) fn_134) (bin_any8 w0 _ f v _ _ ⟨H.k, trivial⟩ hZ.m p.client (by exact hR.client) (by omega)) (fun _ _ h => H.formed hZ h.2 (fa1 ⟨(show 33 ≠ 5 by decide), (show 33 ≠ 90 by decide)⟩ ft0)) ?_; clear F H A; intro vv W A hR H F; obtain ⟨rfl, hZ9⟩ := hR
 replace hZ := hZ.step hZ9; clear hZ9
 refine wpList_nil (hK14 _ _ ?_)
 refine hz_cut (fun A W => Fr A 55 [(0, (.pointer (some ⟨f, 0, none⟩))), (3, (.pointer (some ⟨b2, 0, none⟩)))] ∧ Hp w0 W [⟨b2, 33, (Pk.cells p s)⟩] ∧ (FmK w0 w f v (((((((k + 1) + 1) + 1) + 1) + 1) + 1) + 10) (((((((l ++ binBy (⟨#[77, 81, 84, 84]⟩)) ++ by1 v.toNat) ++ by1 (conFlN p)) ++ by2 p.keep) ++ secB v p.props) ++ binBy p.client) ++ (if p.hasWill = true then secB v p.willProps ++ binBy p.willTopic ++ binBy p.willLoad else [])) W)) (fun A W hM => ?_) (fun K16 hK16 => ?_)
 rotate_left
 ·skip
  refine wp_seq_k (fun K17 hK17 => gx_region ?_)
  iterate 2 (refine zd ?_; intro A F)
  refine wpList_nil (hK17 _ _ ?_)
  refine zc (fun hb18 => ?_) (fun hb18 => ?_)
  ·skip
   replace F := ((F.nil.cons (F.g 3 _ rfl)).cons (F.g 0 _ rfl))
   refine wp_seq_k (fun K19 hK19 => gx_region ?_)
   iterate 3 (refine zd ?_; intro A F)
   refine hz_callR (FmP w0 _ f v (((((((k + 1) + 1) + 1) + 1) + 1) + 1) + 1) (((((((l ++ binBy (⟨#[77, 81, 84, 84]⟩)) ++ by1 v.toNat) ++ by1 (conFlN p)) ++ by2 p.keep) ++ secB v p.props) ++ binBy p.client) ++ secB v p.willProps)) F rfl (ex_call rfl rfl (gx_l1 (F.e rfl) (gx_l1 (F.e rfl) gx_l0)) fn_97) (section_any8 w0 _ f v _ _ ⟨H.k, trivial⟩ hZ.m p.willProps s.wa s.wc hp.hw hF.few.hw hF.wf.w hR.hv hT (by omega)) (fun _ _ h => H.formed hZ h.2 (fa1 ⟨(show 33 ≠ 5 by decide), (show 33 ≠ 90 by decide)⟩ ft0)) ?_; clear F H A; intro vv W A hR H F; obtain ⟨rfl, hZ9⟩ := hR
   replace hZ := hZ.step hZ9; clear hZ9
   refine wpList_nil (hK19 _ _ ?_)
   refine wp_seq_k (fun K21 hK21 => gx_region ?_)
   iterate 3 (refine zd ?_; intro A F)
   refine hz_callR (FmP w0 _ f v ((((((((k + 1) + 1) + 1) + 1) + 1) + 1) + 1) + 1) ((((((((l ++ binBy (⟨#[77, 81, 84, 84]⟩)) ++ by1 v.toNat) ++ by1 (conFlN p)) ++ by2 p.keep) ++ secB v p.props) ++ binBy p.client) ++ secB v p.willProps) ++ binBy p.willTopic)) F rfl (ex_call rfl rfl (gx_l1 (F.e rfl) (gx_l1 (F.e rfl) gx_l0)) fn_134) (bin_any8 w0 _ f v _ _ ⟨H.k, trivial⟩ hZ.m p.willTopic (by exact hR.willTopic) (by omega)) (fun _ _ h => H.formed hZ h.2 (fa1 ⟨(show 33 ≠ 5 by decide), (show 33 ≠ 90 by decide)⟩ ft0)) ?_; clear F H A; intro vv W A hR H F; obtain ⟨rfl, hZ9⟩ := hR
   replace hZ := hZ.step hZ9; clear hZ9
   refine wpList_nil (hK21 _ _ ?_)
   refine gx_region ?_
   iterate 3 (refine zd ?_; intro A F)
   refine hz_callR (FmP w0 _ f v (((((((((k + 1) + 1) + 1) + 1) + 1) + 1) + 1) + 1) + 1) (((((((((l ++ binBy (⟨#[77, 81, 84, 84]⟩)) ++ by1 v.toNat) ++ by1 (conFlN p)) ++ by2 p.keep) ++ secB v p.props) ++ binBy p.client) ++ secB v p.willProps) ++ binBy p.willTopic) ++ binBy p.willLoad)) F rfl (ex_call rfl rfl (gx_l1 (F.e rfl) (gx_l1 (F.e rfl) gx_l0)) fn_134) (bin_any8 w0 _ f v _ _ ⟨H.k, trivial⟩ hZ.m p.willLoad (by exact hR.willLoad) (by omega)) (fun _ _ h => H.formed hZ h.2 (fa1 ⟨(show 33 ≠ 5 by decide), (show 33 ≠ 90 by decide)⟩ ft0)) ?_; clear F H A; intro vv W A hR H F; obtain ⟨rfl, hZ9⟩ := hR
   replace hZ := hZ.step hZ9; clear hZ9
   refine wpList_nil ?_
   exact hK16 _ _ ⟨((F.nil.cons (F.g 3 _ rfl)).cons (F.g 0 _ rfl)), H, (hZ.is (by simp [hb18]) (by omega))⟩
  replace F := ((F.nil.cons (F.g 3 _ rfl)).cons (F.g 0 _ rfl))
  refine wp_skip ?_
  exact hK16 _ _ ⟨((F.nil.cons (F.g 3 _ rfl)).cons (F.g 0 _ rfl)), H, (hZ.is (by simp [hb18]) (by omega))⟩
 clear F H; obtain ⟨F, H, hZ⟩ := hM
 refine hz_cut (fun A W => Fr A 55 [(0, (.pointer (some ⟨f, 0, none⟩))), (3, (.pointer (some ⟨b2, 0, none⟩)))] ∧ Hp w0 W [⟨b2, 33, (Pk.cells p s)⟩] ∧ (FmK w0 w f v ((((((((k + 1) + 1) + 1) + 1) + 1) + 1) + 10) + 10) (((((((l ++ binBy (⟨#[77, 81, 84, 84]⟩)) ++ by1 v.toNat) ++ by1 (conFlN p)) ++ by2 p.keep) ++ secB v p.props) ++ binBy p.client) ++ (if p.hasWill = true then secB v p.willProps ++ binBy p.willTopic ++ binBy p.willLoad else []) ++ (if p.hasUser = true then binBy p.user else [])) W)) (fun A W hM => ?_) (fun K24 hK24 => ?_)
 rotate_left
 ·skip
  refine wp_seq_k (fun K25 hK25 => gx_region ?_)
  iterate 2 (refine zd ?_; intro A F)
  refine wpList_nil (hK25 _ _ ?_)
  refine zc (fun hb26 => ?_) (fun hb26 => ?_)
  ·skip
   refine gx_region ?_
   iterate 3 (refine zd ?_; intro A F)
   refine hz_callR (FmP w0 _ f v ((((((((k + 1) + 1) + 1) + 1) + 1) + 1) + 10) + 1) (((((((l ++ binBy (⟨#[77, 81, 84, 84]⟩)) ++ by1 v.toNat) ++ by1 (conFlN p)) ++ by2 p.keep) ++ secB v p.props) ++ binBy p.client) ++ (if p.hasWill = true then secB v p.willProps ++ binBy p.willTopic ++ binBy p.willLoad else []) ++ binBy p.user)) F rfl (ex_call rfl rfl (gx_l1 (F.e rfl) (gx_l1 (F.e rfl) gx_l0)) fn_134) (bin_any8 w0 _ f v _ _ ⟨H.k, trivial⟩ hZ.m p.user (by exact hR.user) (by omega)) (fun _ _ h => H.formed hZ h.2 (fa1 ⟨(show 33 ≠ 5 by decide), (show 33 ≠ 90 by decide)⟩ ft0)) ?_; clear F H A; intro vv W A hR H F; obtain ⟨rfl, hZ9⟩ := hR
   replace hZ := hZ.step hZ9; clear hZ9
   refine wpList_nil ?_
   exact hK24 _ _ ⟨((F.nil.cons (F.g 3 _ rfl)).cons (F.g 0 _ rfl)), H, (hZ.is (by simp [hb26]) (by omega))⟩
  refine wp_skip ?_
  exact hK24 _ _ ⟨((F.nil.cons (F.g 3 _ rfl)).cons (F.g 0 _ rfl)), H, (hZ.is (by simp [hb26]) (by omega))⟩
 clear F H; obtain ⟨F, H, hZ⟩ := hM
 refine wp_seq_k (fun K28 hK28 => gx_region ?_)
 iterate 2 (refine zd ?_; intro A F)
 refine wpList_nil (hK28 _ _ ?_)
 refine zc (fun hb29 => ?_) (fun hb29 => ?_)
 ·skip
  refine gx_region ?_
  iterate 3 (refine zd ?_; intro A F)
  refine hz_callR (FmP w0 _ f v (((((((((k + 1) + 1) + 1) + 1) + 1) + 1) + 10) + 10) + 1) (((((((l ++ binBy (⟨#[77, 81, 84, 84]⟩)) ++ by1 v.toNat) ++ by1 (conFlN p)) ++ by2 p.keep) ++ secB v p.props) ++ binBy p.client) ++ (if p.hasWill = true then secB v p.willProps ++ binBy p.willTopic ++ binBy p.willLoad else []) ++ (if p.hasUser = true then binBy p.user else []) ++ binBy p.pass)) F rfl (ex_call rfl rfl (gx_l1 (F.e rfl) (gx_l1 (F.e rfl) gx_l0)) fn_134) (bin_any8 w0 _ f v _ _ ⟨H.k, trivial⟩ hZ.m p.pass (by exact hR.pass) (by omega)) (fun _ _ h => H.formed hZ h.2 (fa1 ⟨(show 33 ≠ 5 by decide), (show 33 ≠ 90 by decide)⟩ ft0)) ?_; clear F H A; intro vv W A hR H F; obtain ⟨rfl, hZ9⟩ := hR
  replace hZ := hZ.step hZ9; clear hZ9
  refine wpList_nil ?_
  refine (show bodyPost _ Tryz.f96 RR Exit.normal _ _ from zn0 ?_)
  exact ⟨_, rfl, rfl, hZ.is (by unfold connB; simp only [hb29, if_true, if_false, Bool.false_eq_true, List.append_assoc, List.append_nil, mqtt]) (by omega)⟩
 refine wp_skip ?_
 refine (show bodyPost _ Tryz.f96 RR Exit.normal _ _ from zn0 ?_)
 exact ⟨_, rfl, rfl, hZ.is (by unfold connB; simp only [hb29, if_true, if_false, Bool.false_eq_true, List.append_assoc, List.append_nil, mqtt]) (by omega)⟩
theorem behB_1 {v : Int} {p : Pk} (h : p.kind = 1) : behB v p = connB v p := by unfold behB; rw [if_pos h]
theorem behB_2 {v : Int} {p : Pk} (h : p.kind = 2) : behB v p = by1 (bitN p.present 1) ++ by1 p.code ++ secB v p.props := by unfold behB; rw [if_neg (by omega), if_pos h]
theorem behB_3 {v : Int} {p : Pk} (h : p.kind = 3) : behB v p = publB v p := by unfold behB; rw [if_neg (by omega), if_neg (by omega), if_pos h]
theorem behB_4 {v : Int} {p : Pk} (h : p.kind = 4 ∨ p.kind = 5 ∨ p.kind = 6 ∨ p.kind = 7) : behB v p = by2 p.id ++ shortB v p := by unfold behB; rw [if_neg (by omega), if_neg (by omega), if_neg (by omega), if_pos h]
theorem behB_8 {v : Int} {p : Pk} (h : p.kind = 8 ∨ p.kind = 10) : behB v p = by2 p.id ++ secB v p.props ++ filtB p.kind p.filters := by unfold behB; rw [if_neg (by omega), if_neg (by omega), if_neg (by omega), if_neg (by omega), if_pos h]
theorem behB_9 {v : Int} {p : Pk} (h : p.kind = 9 ∨ p.kind = 11) : behB v p = by2 p.id ++ secB v p.props ++ p.codes := by unfold behB; rw [if_neg (by omega), if_neg (by omega), if_neg (by omega), if_neg (by omega), if_neg (by omega), if_pos h]
theorem behB_14 {v : Int} {p : Pk} (h : p.kind = 14 ∨ p.kind = 15) : behB v p = shortB v p := by unfold behB; rw [if_neg (by omega), if_neg (by omega), if_neg (by omega), if_neg (by omega), if_neg (by omega), if_neg (by omega), if_pos h]
theorem behB_0 {v : Int} {p : Pk} (h1 : p.kind ≠ 1) (h2 : p.kind ≠ 2) (h3 : p.kind ≠ 3) (h4 : ¬ (p.kind = 4 ∨ p.kind = 5 ∨ p.kind = 6 ∨ p.kind = 7)) (h8 : ¬ (p.kind = 8 ∨ p.kind = 10)) (h9 : ¬ (p.kind = 9 ∨ p.kind = 11)) (h14 : ¬ (p.kind = 14 ∨ p.kind = 15)) : behB v p = [] := by
 unfold behB; rw [if_neg h1, if_neg h2, if_neg h3, if_neg h4, if_neg h8, if_neg h9, if_neg h14]
theorem load_le {v : Int} {p : Pk} (hR : Ri v p) (h : p.kind = 3) : p.load.size ≤ 268435455 := by
 have := hR.rest
 unfold restN at this
 rw [if_neg (by omega), if_neg (by omega), if_pos h] at this
 omega
set_option maxHeartbeats 4000000 in
theorem fields_any8 (w0 w : World) (f : Nat) (v : Int) (k : Nat) (l : List UInt8) (H : Hp w0 w []) (hZ : Fm w0 w f v k l) (p : Pk) (s : Sl) (hp : p.At s w0) (hF : Fit p) (hR : Ri v p) (hT : Tabs w0) (hcn : s.ca = none → s.cc = 0) (hk : k ≤ 80000) :
  Calls Tryz.prog 44 #[.pointer (some ⟨f, 0, none⟩), p.val s] w fun e w' => ∃ u, e = .returned u ∧ FmP w0 w f v (k + 40000) (l ++ behB v p) u w' := by
 replace hZ := hZ.start
 have HB := H; clear H
 let RR : Ending → World → Prop := fun e w' => ∃ u, e = .returned u ∧ FmP w0 w f v (k + 40000) (l ++ behB v p) u w'
 go_enter Tryz.func44, Tryz.ntmps44
 generalize hA : ({ tmps := _, defers := [] } : Act) = A
 have F : Fr A 78 [(1, (Pk.val p s)), (0, (.pointer (some ⟨f, 0, none⟩)))] := by rw [← hA]; exact (Fr.cons (i := 1) (v := (Pk.val p s)) (Fr.cons (i := 0) (v := (.pointer (some ⟨f, 0, none⟩))) (Fr.nil0 rfl rfl) rfl) rfl)
 clear hA; have H := HB; clear HB
 refine wp_seq_k (fun K1 hK1 => gx_region ?_)
 refine hz_new (c := (Pk.cells p s)) (t := 33) F H rfl (ex_box rfl (F.e rfl) (gx_box _ _)) ?_; clear F A; intro b2 W A hk hN H9 F; clear H; have H := H9; clear H9
 have hN_hZ_b2 := Nat.le_trans hZ.k.size hN
 replace hZ := hZ.no hk
 clear hk hN
 refine wpList_nil (hK1 _ _ ?_)
 refine wp_seq_k (fun K3 hK3 => gx_region ?_)
 iterate 2 (refine zd ?_; intro A F)
 refine wpList_nil (hK3 _ _ ?_)
 refine wp_block ?_
 refine wp_seq_k (fun K4 hK4 => gx_region ?_)
 refine zb (rn_eql) ?_; intro A F
 refine zd ?_; intro A F
 refine wpList_nil (hK4 _ _ ?_)
 refine zc (fun hb5 => ?_) (fun hb5 => ?_)
 ·skip
  refine gx_region ?_
  refine zd ?_; intro A F
  refine hz_do F rfl (ex_load rfl (F.e rfl) (gl_agg ((Pk.cells p s)) rfl (ga_33 _) (gs_33 _) (fun i => H.cs 0 rfl i))) ?_; intro A F
  refine hz_callR (FmP w0 _ f v (k + 100) (l ++ connB v p)) F rfl (ex_call rfl rfl (gx_l1 (F.e rfl) (gx_l1 (F.e rfl) gx_l0)) fn_96) (connect_any8 w0 _ f v _ _ ⟨H.k, trivial⟩ hZ.m p s hp hF hR hT (by omega)) (fun _ _ h => H.formed hZ h.2 (fa1 ⟨(show 33 ≠ 5 by decide), (show 33 ≠ 90 by decide)⟩ ft0)) ?_; clear F H A; intro vv W A hR H F; obtain ⟨rfl, hZ9⟩ := hR
  replace hZ := hZ.step hZ9; clear hZ9
  refine wpList_nil ?_
  refine (show bodyPost _ Tryz.f44 RR Exit.normal _ _ from zn0 ?_)
  exact ⟨_, rfl, rfl, hZ.is (by rw [behB_1 (of_decide_eq_true hb5)] <;> first | rfl | (simp only [List.append_assoc]; done)) (by omega)⟩
 refine wp_seq_k (fun K7 hK7 => gx_region ?_)
 refine zb (rn_eql) ?_; intro A F
 refine zd ?_; intro A F
 refine wpList_nil (hK7 _ _ ?_)
 refine zc (fun hb8 => ?_) (fun hb8 => ?_)
 ·skip
  refine wp_seq_k (fun K9 hK9 => gx_region ?_)
  iterate 3 (refine zd ?_; intro A F)
  refine hz_callk F H rfl (ex_call rfl rfl (gx_l1 (F.e rfl) (gx_l1 gx_evc gx_l0)) fn_49) (when_any p.present 1 _) ?_; clear F H A; intro W A hk H F
  replace hZ := hZ.no hk
  clear hk
  refine hz_callR (FmP w0 _ f v (k + 1) (l ++ by1 (bitN p.present 1))) F rfl (ex_call rfl rfl (gx_l1 (F.e rfl) (gx_l1 (F.e rfl) gx_l0)) fn_42) (one_any8 w0 _ f v _ _ ⟨H.k, trivial⟩ hZ.m (bitN p.present 1) (by have := hF.id; have := hF.code; have := hF.keep; have := bitN_le p.present 1; omega) (by omega)) (fun _ _ h => H.formed hZ h.2 (fa1 ⟨(show 33 ≠ 5 by decide), (show 33 ≠ 90 by decide)⟩ ft0)) ?_; clear F H A; intro vv W A hR H F; obtain ⟨rfl, hZ9⟩ := hR
  replace hZ := hZ.step hZ9; clear hZ9
  refine wpList_nil (hK9 _ _ ?_)
  refine wp_seq_k (fun K12 hK12 => gx_region ?_)
  iterate 3 (refine zd ?_; intro A F)
  refine hz_callR (FmP w0 _ f v ((k + 1) + 1) ((l ++ by1 (bitN p.present 1)) ++ by1 p.code)) F rfl (ex_call rfl rfl (gx_l1 (F.e rfl) (gx_l1 (F.e rfl) gx_l0)) fn_42) (one_any8 w0 _ f v _ _ ⟨H.k, trivial⟩ hZ.m p.code (by have := hF.id; have := hF.code; have := hF.keep; have := bitN_le p.present 1; omega) (by omega)) (fun _ _ h => H.formed hZ h.2 (fa1 ⟨(show 33 ≠ 5 by decide), (show 33 ≠ 90 by decide)⟩ ft0)) ?_; clear F H A; intro vv W A hR H F; obtain ⟨rfl, hZ9⟩ := hR
  replace hZ := hZ.step hZ9; clear hZ9
  refine wpList_nil (hK12 _ _ ?_)
  refine gx_region ?_
  iterate 3 (refine zd ?_; intro A F)
  refine hz_callR (FmP w0 _ f v (((k + 1) + 1) + 1) (((l ++ by1 (bitN p.present 1)) ++ by1 p.code) ++ secB v p.props)) F rfl (ex_call rfl rfl (gx_l1 (F.e rfl) (gx_l1 (F.e rfl) gx_l0)) fn_97) (section_any8 w0 _ f v _ _ ⟨H.k, trivial⟩ hZ.m p.props s.pa s.pc hp.hp hF.few.hp hF.wf.p hR.hv hT (by omega)) (fun _ _ h => H.formed hZ h.2 (fa1 ⟨(show 33 ≠ 5 by decide), (show 33 ≠ 90 by decide)⟩ ft0)) ?_; clear F H A; intro vv W A hR H F; obtain ⟨rfl, hZ9⟩ := hR
  replace hZ := hZ.step hZ9; clear hZ9
  refine wpList_nil ?_
  refine (show bodyPost _ Tryz.f44 RR Exit.normal _ _ from zn0 ?_)
  exact ⟨_, rfl, rfl, hZ.is (by rw [behB_2 (of_decide_eq_true hb8)] <;> first | rfl | (simp only [List.append_assoc]; done)) (by omega)⟩
 refine wp_seq_k (fun K15 hK15 => gx_region ?_)
 refine zb (rn_eql) ?_; intro A F
 refine zd ?_; intro A F
 refine wpList_nil (hK15 _ _ ?_)
 refine zc (fun hb16 => ?_) (fun hb16 => ?_)
 ·skip
  refine gx_region ?_
  refine zd ?_; intro A F
  refine hz_do F rfl (ex_load rfl (F.e rfl) (gl_agg ((Pk.cells p s)) rfl (ga_33 _) (gs_33 _) (fun i => H.cs 0 rfl i))) ?_; intro A F
  refine hz_callR (FmP w0 _ f v (k + 100) (l ++ publB v p)) F rfl (ex_call rfl rfl (gx_l1 (F.e rfl) (gx_l1 (F.e rfl) gx_l0)) fn_98) (publish_any8 w0 _ f v _ _ ⟨H.k, trivial⟩ hZ.m p s hp hF hR hT (load_le hR (of_decide_eq_true hb16)) (by omega)) (fun _ _ h => H.formed hZ h.2 (fa1 ⟨(show 33 ≠ 5 by decide), (show 33 ≠ 90 by decide)⟩ ft0)) ?_; clear F H A; intro vv W A hR H F; obtain ⟨rfl, hZ9⟩ := hR
  replace hZ := hZ.step hZ9; clear hZ9
  refine wpList_nil ?_
  refine (show bodyPost _ Tryz.f44 RR Exit.normal _ _ from zn0 ?_)
  exact ⟨_, rfl, rfl, hZ.is (by rw [behB_3 (of_decide_eq_true hb16)] <;> first | rfl | (simp only [List.append_assoc]; done)) (by omega)⟩
 refine wp_seq_k (fun K18 hK18 => ?_)
 refine wp_seq_k (fun K19 hK19 => gx_region ?_)
 refine zb (rn_eql) ?_; intro A F
 refine zd ?_; intro A F
 refine wpList_nil (hK19 _ _ ?_)
 refine zc (fun hb20 => ?_) (fun hb20 => ?_)
 ·skip
  refine wp_skip (hK18 _ _ ?_)
  refine wp_cond_true ((F.e rfl).trans (congrArg Value.bool hb20)) ?_
  refine wp_seq_k (fun K21 hK21 => gx_region ?_)
  iterate 3 (refine zd ?_; intro A F)
  refine hz_callR (FmP w0 _ f v (k + 1) (l ++ by2 p.id)) F rfl (ex_call rfl rfl (gx_l1 (F.e rfl) (gx_l1 (F.e rfl) gx_l0)) fn_99) (two_any8 w0 _ f v _ _ ⟨H.k, trivial⟩ hZ.m p.id (by have := hF.id; have := hF.code; have := hF.keep; have := bitN_le p.present 1; omega) (by omega)) (fun _ _ h => H.formed hZ h.2 (fa1 ⟨(show 33 ≠ 5 by decide), (show 33 ≠ 90 by decide)⟩ ft0)) ?_; clear F H A; intro vv W A hR H F; obtain ⟨rfl, hZ9⟩ := hR
  replace hZ := hZ.step hZ9; clear hZ9
  refine wpList_nil (hK21 _ _ ?_)
  refine gx_region ?_
  refine zd ?_; intro A F
  refine hz_do F rfl (ex_load rfl (F.e rfl) (gl_agg ((Pk.cells p s)) rfl (ga_33 _) (gs_33 _) (fun i => H.cs 0 rfl i))) ?_; intro A F
  refine hz_callR (FmP w0 _ f v ((k + 1) + 100) ((l ++ by2 p.id) ++ shortB v p)) F rfl (ex_call rfl rfl (gx_l1 (F.e rfl) (gx_l1 (F.e rfl) gx_l0)) fn_100) (short_any8 w0 _ f v _ _ ⟨H.k, trivial⟩ hZ.m p s hp hF hR hT (by omega)) (fun _ _ h => H.formed hZ h.2 (fa1 ⟨(show 33 ≠ 5 by decide), (show 33 ≠ 90 by decide)⟩ ft0)) ?_; clear F H A; intro vv W A hR H F; obtain ⟨rfl, hZ9⟩ := hR
  replace hZ := hZ.step hZ9; clear hZ9
  refine wpList_nil ?_
  refine (show bodyPost _ Tryz.f44 RR Exit.normal _ _ from zn0 ?_)
  exact ⟨_, rfl, rfl, hZ.is (by have := hb5;  have := hb8;  have := hb16;  have := hb20; simp only [Bool.or_eq_true, Bool.or_eq_false_iff, decide_eq_true_eq, decide_eq_false_iff_not] at *; first | (rw [behB_1 (by omega)] <;> first | rfl | (simp only [List.append_assoc]; done)) | (rw [behB_2 (by omega)] <;> first | rfl | (simp only [List.append_assoc]; done)) | (rw [behB_3 (by omega)] <;> first | rfl | (simp only [List.append_assoc]; done)) | (rw [behB_4 (by omega)] <;> first | rfl | (simp only [List.append_assoc]; done)) | (rw [behB_8 (by omega)] <;> first | rfl | (simp only [List.append_assoc]; done)) | (rw [behB_9 (by omega)] <;> first | rfl | (simp only [List.append_assoc]; done)) | (rw [behB_14 (by omega)] <;> first | rfl | (simp only [List.append_assoc]; done)) | (rw [behB_0 (by omega) (by omega) (by omega) (by omega) (by omega) (by omega) (by omega), List.append_nil])) (by omega)⟩
 refine wp_seq_k (fun K24 hK24 => gx_region ?_)
 refine zb (rn_eql) ?_; intro A F
 refine zd ?_; intro A F
 refine wpList_nil (hK24 _ _ ?_)
 refine zc (fun hb25 => ?_) (fun hb25 => ?_)
 ·skip
  refine wp_skip (hK18 _ _ ?_)
  refine wp_cond_true ((F.e rfl).trans (congrArg Value.bool hb25)) ?_
  refine wp_seq_k (fun K26 hK26 => gx_region ?_)
  iterate 3 (refine zd ?_; intro A F)
  refine hz_callR (FmP w0 _ f v (k + 1) (l ++ by2 p.id)) F rfl (ex_call rfl rfl (gx_l1 (F.e rfl) (gx_l1 (F.e rfl) gx_l0)) fn_99) (two_any8 w0 _ f v _ _ ⟨H.k, trivial⟩ hZ.m p.id (by have := hF.id; have := hF.code; have := hF.keep; have := bitN_le p.present 1; omega) (by omega)) (fun _ _ h => H.formed hZ h.2 (fa1 ⟨(show 33 ≠ 5 by decide), (show 33 ≠ 90 by decide)⟩ ft0)) ?_; clear F H A; intro vv W A hR H F; obtain ⟨rfl, hZ9⟩ := hR
  replace hZ := hZ.step hZ9; clear hZ9
  refine wpList_nil (hK26 _ _ ?_)
  refine gx_region ?_
  refine zd ?_; intro A F
  refine hz_do F rfl (ex_load rfl (F.e rfl) (gl_agg ((Pk.cells p s)) rfl (ga_33 _) (gs_33 _) (fun i => H.cs 0 rfl i))) ?_; intro A F
  refine hz_callR (FmP w0 _ f v ((k + 1) + 100) ((l ++ by2 p.id) ++ shortB v p)) F rfl (ex_call rfl rfl (gx_l1 (F.e rfl) (gx_l1 (F.e rfl) gx_l0)) fn_100) (short_any8 w0 _ f v _ _ ⟨H.k, trivial⟩ hZ.m p s hp hF hR hT (by omega)) (fun _ _ h => H.formed hZ h.2 (fa1 ⟨(show 33 ≠ 5 by decide), (show 33 ≠ 90 by decide)⟩ ft0)) ?_; clear F H A; intro vv W A hR H F; obtain ⟨rfl, hZ9⟩ := hR
  replace hZ := hZ.step hZ9; clear hZ9
  refine wpList_nil ?_
  refine (show bodyPost _ Tryz.f44 RR Exit.normal _ _ from zn0 ?_)
  exact ⟨_, rfl, rfl, hZ.is (by have := hb5;  have := hb8;  have := hb16;  have := hb20;  have := hb25; simp only [Bool.or_eq_true, Bool.or_eq_false_iff, decide_eq_true_eq, decide_eq_false_iff_not] at *; first | (rw [behB_1 (by omega)] <;> first | rfl | (simp only [List.append_assoc]; done)) | (rw [behB_2 (by omega)] <;> first | rfl | (simp only [List.append_assoc]; done)) | (rw [behB_3 (by omega)] <;> first | rfl | (simp only [List.append_assoc]; done)) | (rw [behB_4 (by omega)] <;> first | rfl | (simp only [List.append_assoc]; done)) | (rw [behB_8 (by omega)] <;> first | rfl | (simp only [List.append_assoc]; done)) | (rw [behB_9 (by omega)] <;> first | rfl | (simp only [List.append_assoc]; done)) | (rw [behB_14 (by omega)] <;> first | rfl | (simp only [List.append_assoc]; done)) | (rw [behB_0 (by omega) (by omega) (by omega) (by omega) (by omega) (by omega) (by omega), List.append_nil])) (by omega)⟩
 refine wp_seq_k (fun K29 hK29 => gx_region ?_)
 refine zb (rn_eql) ?_; intro A F
 refine zd ?_; intro A F
 refine wpList_nil (hK29 _ _ ?_)
 refine zc (fun hb30 => ?_) (fun hb30 => ?_)
 ·skip
  refine wp_skip (hK18 _ _ ?_)
  refine wp_cond_true ((F.e rfl).trans (congrArg Value.bool hb30)) ?_
  replace F := (((F.nil.cons (F.g 5 _ rfl)).cons (F.g 3 _ rfl)).cons (F.g 0 _ rfl))
  refine wp_seq_k (fun K31 hK31 => gx_region ?_)
  iterate 3 (refine zd ?_; intro A F)
  refine hz_callR (FmP w0 _ f v (k + 1) (l ++ by2 p.id)) F rfl (ex_call rfl rfl (gx_l1 (F.e rfl) (gx_l1 (F.e rfl) gx_l0)) fn_99) (two_any8 w0 _ f v _ _ ⟨H.k, trivial⟩ hZ.m p.id (by have := hF.id; have := hF.code; have := hF.keep; have := bitN_le p.present 1; omega) (by omega)) (fun _ _ h => H.formed hZ h.2 (fa1 ⟨(show 33 ≠ 5 by decide), (show 33 ≠ 90 by decide)⟩ ft0)) ?_; clear F H A; intro vv W A hR H F; obtain ⟨rfl, hZ9⟩ := hR
  replace hZ := hZ.step hZ9; clear hZ9
  refine wpList_nil (hK31 _ _ ?_)
  refine gx_region ?_
  refine zd ?_; intro A F
  refine hz_do F rfl (ex_load rfl (F.e rfl) (gl_agg ((Pk.cells p s)) rfl (ga_33 _) (gs_33 _) (fun i => H.cs 0 rfl i))) ?_; intro A F
  refine hz_callR (FmP w0 _ f v ((k + 1) + 100) ((l ++ by2 p.id) ++ shortB v p)) F rfl (ex_call rfl rfl (gx_l1 (F.e rfl) (gx_l1 (F.e rfl) gx_l0)) fn_100) (short_any8 w0 _ f v _ _ ⟨H.k, trivial⟩ hZ.m p s hp hF hR hT (by omega)) (fun _ _ h => H.formed hZ h.2 (fa1 ⟨(show 33 ≠ 5 by decide), (show 33 ≠ 90 by decide)⟩ ft0)) ?_; clear F H A; intro vv W A hR H F; obtain ⟨rfl, hZ9⟩ := hR
  replace hZ := hZ.step hZ9; clear hZ9
  refine wpList_nil ?_
  refine (show bodyPost _ Tryz.f44 RR Exit.normal _ _ from zn0 ?_)
  exact ⟨_, rfl, rfl, hZ.is (by have := hb5;  have := hb8;  have := hb16;  have := hb20;  have := hb25;  have := hb30; simp only [Bool.or_eq_true, Bool.or_eq_false_iff, decide_eq_true_eq, decide_eq_false_iff_not] at *; first | (rw [behB_1 (by omega)] <;> first | rfl | (simp only [List.append_assoc]; done)) | (rw [behB_2 (by omega)] <;> first | rfl | (simp only [List.append_assoc]; done)) | (rw [behB_3 (by omega)] <;> first | rfl | (simp only [List.append_assoc]; done)) | (rw [behB_4 (by omega)] <;> first | rfl | (simp only [List.append_assoc]; done)) | (rw [behB_8 (by omega)] <;> first | rfl | (simp only [List.append_assoc]; done)) | (rw [behB_9 (by omega)] <;> first | rfl | (simp only [List.append_assoc]; done)) | (rw [behB_14 (by omega)] <;> first | rfl | (simp only [List.append_assoc]; done)) | (rw [behB_0 (by omega) (by omega) (by omega) (by omega) (by omega) (by omega) (by omega), List.append_nil])) (by omega)⟩
 refine gx_region ?_
 refine zb (rn_eql) ?_; intro A F
 refine zd ?_; intro A F
 refine wpList_nil (hK18 _ _ ?_)
 refine zc (fun hb34 => ?_) (fun hb34 => ?_)
 ·skip
  replace F := (((F.nil.cons (F.g 5 _ rfl)).cons (F.g 3 _ rfl)).cons (F.g 0 _ rfl))
  refine wp_seq_k (fun K35 hK35 => gx_region ?_)
  iterate 3 (refine zd ?_; intro A F)
  refine hz_callR (FmP w0 _ f v (k + 1) (l ++ by2 p.id)) F rfl (ex_call rfl rfl (gx_l1 (F.e rfl) (gx_l1 (F.e rfl) gx_l0)) fn_99) (two_any8 w0 _ f v _ _ ⟨H.k, trivial⟩ hZ.m p.id (by have := hF.id; have := hF.code; have := hF.keep; have := bitN_le p.present 1; omega) (by omega)) (fun _ _ h => H.formed hZ h.2 (fa1 ⟨(show 33 ≠ 5 by decide), (show 33 ≠ 90 by decide)⟩ ft0)) ?_; clear F H A; intro vv W A hR H F; obtain ⟨rfl, hZ9⟩ := hR
  replace hZ := hZ.step hZ9; clear hZ9
  refine wpList_nil (hK35 _ _ ?_)
  refine gx_region ?_
  refine zd ?_; intro A F
  refine hz_do F rfl (ex_load rfl (F.e rfl) (gl_agg ((Pk.cells p s)) rfl (ga_33 _) (gs_33 _) (fun i => H.cs 0 rfl i))) ?_; intro A F
  refine hz_callR (FmP w0 _ f v ((k + 1) + 100) ((l ++ by2 p.id) ++ shortB v p)) F rfl (ex_call rfl rfl (gx_l1 (F.e rfl) (gx_l1 (F.e rfl) gx_l0)) fn_100) (short_any8 w0 _ f v _ _ ⟨H.k, trivial⟩ hZ.m p s hp hF hR hT (by omega)) (fun _ _ h => H.formed hZ h.2 (fa1 ⟨(show 33 ≠ 5 by decide), (show 33 ≠ 90 by decide)⟩ ft0)) ?_; clear F H A; intro vv W A hR H F; obtain ⟨rfl, hZ9⟩ := hR
  replace hZ := hZ.step hZ9; clear hZ9
  refine wpList_nil ?_
  refine (show bodyPost _ Tryz.f44 RR Exit.normal _ _ from zn0 ?_)
  exact ⟨_, rfl, rfl, hZ.is (by have := hb5;  have := hb8;  have := hb16;  have := hb20;  have := hb25;  have := hb30;  have := hb34; simp only [Bool.or_eq_true, Bool.or_eq_false_iff, decide_eq_true_eq, decide_eq_false_iff_not] at *; first | (rw [behB_1 (by omega)] <;> first | rfl | (simp only [List.append_assoc]; done)) | (rw [behB_2 (by omega)] <;> first | rfl | (simp only [List.append_assoc]; done)) | (rw [behB_3 (by omega)] <;> first | rfl | (simp only [List.append_assoc]; done)) | (rw [behB_4 (by omega)] <;> first | rfl | (simp only [List.append_assoc]; done)) | (rw [behB_8 (by omega)] <;> first | rfl | (simp only [List.append_assoc]; done)) | (rw [behB_9 (by omega)] <;> first | rfl | (simp only [List.append_assoc]; done)) | (rw [behB_14 (by omega)] <;> first | rfl | (simp only [List.append_assoc]; done)) | (rw [behB_0 (by omega) (by omega) (by omega) (by omega) (by omega) (by omega) (by omega), List.append_nil])) (by omega)⟩
 replace F := (((F.nil.cons (F.g 5 _ rfl)).cons (F.g 3 _ rfl)).cons (F.g 0 _ rfl))
 refine wp_seq_k (fun K38 hK38 => ?_)
 refine wp_seq_k (fun K39 hK39 => gx_region ?_)
 refine zb (rn_eql) ?_; intro A F
 refine zd ?_; intro A F
 refine wpList_nil (hK39 _ _ ?_)
 refine zc (fun hb40 => ?_) (fun hb40 => ?_)
 ·skip
  refine wp_skip (hK38 _ _ ?_)
  refine wp_cond_true ((F.e rfl).trans (congrArg Value.bool hb40)) ?_
  refine wp_seq_k (fun K41 hK41 => gx_region ?_)
  iterate 3 (refine zd ?_; intro A F)
  refine hz_callR (FmP w0 _ f v (k + 1) (l ++ by2 p.id)) F rfl (ex_call rfl rfl (gx_l1 (F.e rfl) (gx_l1 (F.e rfl) gx_l0)) fn_99) (two_any8 w0 _ f v _ _ ⟨H.k, trivial⟩ hZ.m p.id (by have := hF.id; have := hF.code; have := hF.keep; have := bitN_le p.present 1; omega) (by omega)) (fun _ _ h => H.formed hZ h.2 (fa1 ⟨(show 33 ≠ 5 by decide), (show 33 ≠ 90 by decide)⟩ ft0)) ?_; clear F H A; intro vv W A hR H F; obtain ⟨rfl, hZ9⟩ := hR
  replace hZ := hZ.step hZ9; clear hZ9
  refine wpList_nil (hK41 _ _ ?_)
  refine wp_seq_k (fun K43 hK43 => gx_region ?_)
  iterate 3 (refine zd ?_; intro A F)
  refine hz_callR (FmP w0 _ f v ((k + 1) + 1) ((l ++ by2 p.id) ++ secB v p.props)) F rfl (ex_call rfl rfl (gx_l1 (F.e rfl) (gx_l1 (F.e rfl) gx_l0)) fn_97) (section_any8 w0 _ f v _ _ ⟨H.k, trivial⟩ hZ.m p.props s.pa s.pc hp.hp hF.few.hp hF.wf.p hR.hv hT (by omega)) (fun _ _ h => H.formed hZ h.2 (fa1 ⟨(show 33 ≠ 5 by decide), (show 33 ≠ 90 by decide)⟩ ft0)) ?_; clear F H A; intro vv W A hR H F; obtain ⟨rfl, hZ9⟩ := hR
  replace hZ := hZ.step hZ9; clear hZ9
  refine wpList_nil (hK43 _ _ ?_)
  refine gx_region ?_
  refine zd ?_; intro A F
  refine hz_do F rfl (ex_load rfl (F.e rfl) (gl_agg ((Pk.cells p s)) rfl (ga_33 _) (gs_33 _) (fun i => H.cs 0 rfl i))) ?_; intro A F
  refine hz_callR (FmP w0 _ f v (((k + 1) + 1) + 31000) (((l ++ by2 p.id) ++ secB v p.props) ++ filtB p.kind p.filters)) F rfl (ex_call rfl rfl (gx_l1 (F.e rfl) (gx_l1 (F.e rfl) gx_l0)) fn_101) (filters_any8 w0 _ f v _ _ ⟨H.k, trivial⟩ hZ.m p s hp hF hR hT (by omega)) (fun _ _ h => H.formed hZ h.2 (fa1 ⟨(show 33 ≠ 5 by decide), (show 33 ≠ 90 by decide)⟩ ft0)) ?_; clear F H A; intro vv W A hR H F; obtain ⟨rfl, hZ9⟩ := hR
  replace hZ := hZ.step hZ9; clear hZ9
  refine wpList_nil ?_
  refine (show bodyPost _ Tryz.f44 RR Exit.normal _ _ from zn0 ?_)
  exact ⟨_, rfl, rfl, hZ.is (by have := hb5;  have := hb8;  have := hb16;  have := hb20;  have := hb25;  have := hb30;  have := hb34;  have := hb40; simp only [Bool.or_eq_true, Bool.or_eq_false_iff, decide_eq_true_eq, decide_eq_false_iff_not] at *; first | (rw [behB_1 (by omega)] <;> first | rfl | (simp only [List.append_assoc]; done)) | (rw [behB_2 (by omega)] <;> first | rfl | (simp only [List.append_assoc]; done)) | (rw [behB_3 (by omega)] <;> first | rfl | (simp only [List.append_assoc]; done)) | (rw [behB_4 (by omega)] <;> first | rfl | (simp only [List.append_assoc]; done)) | (rw [behB_8 (by omega)] <;> first | rfl | (simp only [List.append_assoc]; done)) | (rw [behB_9 (by omega)] <;> first | rfl | (simp only [List.append_assoc]; done)) | (rw [behB_14 (by omega)] <;> first | rfl | (simp only [List.append_assoc]; done)) | (rw [behB_0 (by omega) (by omega) (by omega) (by omega) (by omega) (by omega) (by omega), List.append_nil])) (by omega)⟩
 refine gx_region ?_
 refine zb (rn_eql) ?_; intro A F
 refine zd ?_; intro A F
 refine wpList_nil (hK38 _ _ ?_)
 refine zc (fun hb46 => ?_) (fun hb46 => ?_)
 ·skip
  refine wp_seq_k (fun K47 hK47 => gx_region ?_)
  iterate 3 (refine zd ?_; intro A F)
  refine hz_callR (FmP w0 _ f v (k + 1) (l ++ by2 p.id)) F rfl (ex_call rfl rfl (gx_l1 (F.e rfl) (gx_l1 (F.e rfl) gx_l0)) fn_99) (two_any8 w0 _ f v _ _ ⟨H.k, trivial⟩ hZ.m p.id (by have := hF.id; have := hF.code; have := hF.keep; have := bitN_le p.present 1; omega) (by omega)) (fun _ _ h => H.formed hZ h.2 (fa1 ⟨(show 33 ≠ 5 by decide), (show 33 ≠ 90 by decide)⟩ ft0)) ?_; clear F H A; intro vv W A hR H F; obtain ⟨rfl, hZ9⟩ := hR
  replace hZ := hZ.step hZ9; clear hZ9
  refine wpList_nil (hK47 _ _ ?_)
  refine wp_seq_k (fun K49 hK49 => gx_region ?_)
  iterate 3 (refine zd ?_; intro A F)
  refine hz_callR (FmP w0 _ f v ((k + 1) + 1) ((l ++ by2 p.id) ++ secB v p.props)) F rfl (ex_call rfl rfl (gx_l1 (F.e rfl) (gx_l1 (F.e rfl) gx_l0)) fn_97) (section_any8 w0 _ f v _ _ ⟨H.k, trivial⟩ hZ.m p.props s.pa s.pc hp.hp hF.few.hp hF.wf.p hR.hv hT (by omega)) (fun _ _ h => H.formed hZ h.2 (fa1 ⟨(show 33 ≠ 5 by decide), (show 33 ≠ 90 by decide)⟩ ft0)) ?_; clear F H A; intro vv W A hR H F; obtain ⟨rfl, hZ9⟩ := hR
  replace hZ := hZ.step hZ9; clear hZ9
  refine wpList_nil (hK49 _ _ ?_)
  refine gx_region ?_
  refine zd ?_; intro A F
  refine hz_do F rfl (ex_load rfl (F.e rfl) (gl_agg ((Pk.cells p s)) rfl (ga_33 _) (gs_33 _) (fun i => H.cs 0 rfl i))) ?_; intro A F
  refine hz_callR (FmP w0 _ f v (((k + 1) + 1) + 31000) (((l ++ by2 p.id) ++ secB v p.props) ++ filtB p.kind p.filters)) F rfl (ex_call rfl rfl (gx_l1 (F.e rfl) (gx_l1 (F.e rfl) gx_l0)) fn_101) (filters_any8 w0 _ f v _ _ ⟨H.k, trivial⟩ hZ.m p s hp hF hR hT (by omega)) (fun _ _ h => H.formed hZ h.2 (fa1 ⟨(show 33 ≠ 5 by decide), (show 33 ≠ 90 by decide)⟩ ft0)) ?_; clear F H A; intro vv W A hR H F; obtain ⟨rfl, hZ9⟩ := hR
  replace hZ := hZ.step hZ9; clear hZ9
  refine wpList_nil ?_
  refine (show bodyPost _ Tryz.f44 RR Exit.normal _ _ from zn0 ?_)
  exact ⟨_, rfl, rfl, hZ.is (by have := hb5;  have := hb8;  have := hb16;  have := hb20;  have := hb25;  have := hb30;  have := hb34;  have := hb40;  have := hb46; simp only [Bool.or_eq_true, Bool.or_eq_false_iff, decide_eq_true_eq, decide_eq_false_iff_not] at *; first | (rw [behB_1 (by omega)] <;> first | rfl | (simp only [List.append_assoc]; done)) | (rw [behB_2 (by omega)] <;> first | rfl | (simp only [List.append_assoc]; done)) | (rw [behB_3 (by omega)] <;> first | rfl | (simp only [List.append_assoc]; done)) | (rw [behB_4 (by omega)] <;> first | rfl | (simp only [List.append_assoc]; done)) | (rw [behB_8 (by omega)] <;> first | rfl | (simp only [List.append_assoc]; done)) | (rw [behB_9 (by omega)] <;> first | rfl | (simp only [List.append_assoc]; done)) | (rw [behB_14 (by omega)] <;> first | rfl | (simp only [List.append_assoc]; done)) | (rw [behB_0 (by omega) (by omega) (by omega) (by omega) (by omega) (by omega) (by omega), List.append_nil])) (by omega)⟩
 refine wp_seq_k (fun K52 hK52 => ?_)
 refine wp_seq_k (fun K53 hK53 => gx_region ?_)
 refine zb (rn_eql) ?_; intro A F
 refine zd ?_; intro A F
 refine wpList_nil (hK53 _ _ ?_)
 refine zc (fun hb54 => ?_) (fun hb54 => ?_)
 ·skip
  refine wp_skip (hK52 _ _ ?_)
  refine wp_cond_true ((F.e rfl).trans (congrArg Value.bool hb54)) ?_
  refine wp_seq_k (fun K55 hK55 => gx_region ?_)
  iterate 3 (refine zd ?_; intro A F)
  refine hz_callR (FmP w0 _ f v (k + 1) (l ++ by2 p.id)) F rfl (ex_call rfl rfl (gx_l1 (F.e rfl) (gx_l1 (F.e rfl) gx_l0)) fn_99) (two_any8 w0 _ f v _ _ ⟨H.k, trivial⟩ hZ.m p.id (by have := hF.id; have := hF.code; have := hF.keep; have := bitN_le p.present 1; omega) (by omega)) (fun _ _ h => H.formed hZ h.2 (fa1 ⟨(show 33 ≠ 5 by decide), (show 33 ≠ 90 by decide)⟩ ft0)) ?_; clear F H A; intro vv W A hR H F; obtain ⟨rfl, hZ9⟩ := hR
  replace hZ := hZ.step hZ9; clear hZ9
  refine wpList_nil (hK55 _ _ ?_)
  refine wp_seq_k (fun K57 hK57 => gx_region ?_)
  iterate 3 (refine zd ?_; intro A F)
  refine hz_callR (FmP w0 _ f v ((k + 1) + 1) ((l ++ by2 p.id) ++ secB v p.props)) F rfl (ex_call rfl rfl (gx_l1 (F.e rfl) (gx_l1 (F.e rfl) gx_l0)) fn_97) (section_any8 w0 _ f v _ _ ⟨H.k, trivial⟩ hZ.m p.props s.pa s.pc hp.hp hF.few.hp hF.wf.p hR.hv hT (by omega)) (fun _ _ h => H.formed hZ h.2 (fa1 ⟨(show 33 ≠ 5 by decide), (show 33 ≠ 90 by decide)⟩ ft0)) ?_; clear F H A; intro vv W A hR H F; obtain ⟨rfl, hZ9⟩ := hR
  replace hZ := hZ.step hZ9; clear hZ9
  refine wpList_nil (hK57 _ _ ?_)
  refine gx_region ?_
  iterate 3 (refine zd ?_; intro A F)
  refine hz_callR (FmP w0 _ f v (((k + 1) + 1) + 1) (((l ++ by2 p.id) ++ secB v p.props) ++ p.codes)) F rfl (ex_call rfl rfl (gx_l1 (F.e rfl) (gx_l1 (F.e rfl) gx_l0)) fn_93) (lay_any8 w0 _ f v _ _ ⟨H.k, trivial⟩ hZ.m s.ca s.cc p.codes (hp.hc.keptNo H.k) hcn (by have := hR.nc; omega) (by omega)) (fun _ _ h => H.formed hZ h.2 (fa1 ⟨(show 33 ≠ 5 by decide), (show 33 ≠ 90 by decide)⟩ ft0)) ?_; clear F H A; intro vv W A hR H F; obtain ⟨rfl, hZ9⟩ := hR
  replace hZ := hZ.step hZ9; clear hZ9
  refine wpList_nil ?_
  refine (show bodyPost _ Tryz.f44 RR Exit.normal _ _ from zn0 ?_)
  exact ⟨_, rfl, rfl, hZ.is (by have := hb5;  have := hb8;  have := hb16;  have := hb20;  have := hb25;  have := hb30;  have := hb34;  have := hb40;  have := hb46;  have := hb54; simp only [Bool.or_eq_true, Bool.or_eq_false_iff, decide_eq_true_eq, decide_eq_false_iff_not] at *; first | (rw [behB_1 (by omega)] <;> first | rfl | (simp only [List.append_assoc]; done)) | (rw [behB_2 (by omega)] <;> first | rfl | (simp only [List.append_assoc]; done)) | (rw [behB_3 (by omega)] <;> first | rfl | (simp only [List.append_assoc]; done)) | (rw [behB_4 (by omega)] <;> first | rfl | (simp only [List.append_assoc]; done)) | (rw [behB_8 (by omega)] <;> first | rfl | (simp only [List.append_assoc]; done)) | (rw [behB_9 (by omega)] <;> first | rfl | (simp only [List.append_assoc]; done)) | (rw [behB_14 (by omega)] <;> first | rfl | (simp only [List.append_assoc]; done)) | (rw [behB_0 (by omega) (by omega) (by omega) (by omega) (by omega) (by omega) (by omega), List.append_nil])) (by omega)⟩
 refine gx_region ?_
 refine zb (rn_eql) ?_; intro A F
 refine zd ?_; intro A F
 refine wpList_nil (hK52 _ _ ?_)
 refine zc (fun hb60 => ?_) (fun hb60 => ?_)
 ·skip
  refine wp_seq_k (fun K61 hK61 => gx_region ?_)
  iterate 3 (refine zd ?_; intro A F)
  refine hz_callR (FmP w0 _ f v (k + 1) (l ++ by2 p.id)) F rfl (ex_call rfl rfl (gx_l1 (F.e rfl) (gx_l1 (F.e rfl) gx_l0)) fn_99) (two_any8 w0 _ f v _ _ ⟨H.k, trivial⟩ hZ.m p.id (by have := hF.id; have := hF.code; have := hF.keep; have := bitN_le p.present 1; omega) (by omega)) (fun _ _ h => H.formed hZ h.2 (fa1 ⟨(show 33 ≠ 5 by decide), (show 33 ≠ 90 by decide)⟩ ft0)) ?_; clear F H A; intro vv W A hR H F; obtain ⟨rfl, hZ9⟩ := hR
  replace hZ := hZ.step hZ9; clear hZ9
  refine wpList_nil (hK61 _ _ ?_)
  refine wp_seq_k (fun K63 hK63 => gx_region ?_)
  iterate 3 (refine zd ?_; intro A F)
  refine hz_callR (FmP w0 _ f v ((k + 1) + 1) ((l ++ by2 p.id) ++ secB v p.props)) F rfl (ex_call rfl rfl (gx_l1 (F.e rfl) (gx_l1 (F.e rfl) gx_l0)) fn_97) (section_any8 w0 _ f v _ _ ⟨H.k, trivial⟩ hZ.m p.props s.pa s.pc hp.hp hF.few.hp hF.wf.p hR.hv hT (by omega)) (fun _ _ h => H.formed hZ h.2 (fa1 ⟨(show 33 ≠ 5 by decide), (show 33 ≠ 90 by decide)⟩ ft0)) ?_; clear F H A; intro vv W A hR H F; obtain ⟨rfl, hZ9⟩ := hR
  replace hZ := hZ.step hZ9; clear hZ9
  refine wpList_nil (hK63 _ _ ?_)
  refine gx_region ?_
  iterate 3 (refine zd ?_; intro A F)
  refine hz_callR (FmP w0 _ f v (((k + 1) + 1) + 1) (((l ++ by2 p.id) ++ secB v p.props) ++ p.codes)) F rfl (ex_call rfl rfl (gx_l1 (F.e rfl) (gx_l1 (F.e rfl) gx_l0)) fn_93) (lay_any8 w0 _ f v _ _ ⟨H.k, trivial⟩ hZ.m s.ca s.cc p.codes (hp.hc.keptNo H.k) hcn (by have := hR.nc; omega) (by omega)) (fun _ _ h => H.formed hZ h.2 (fa1 ⟨(show 33 ≠ 5 by decide), (show 33 ≠ 90 by decide)⟩ ft0)) ?_; clear F H A; intro vv W A hR H F; obtain ⟨rfl, hZ9⟩ := hR
  replace hZ := hZ.step hZ9; clear hZ9
  refine wpList_nil ?_
  refine (show bodyPost _ Tryz.f44 RR Exit.normal _ _ from zn0 ?_)
  exact ⟨_, rfl, rfl, hZ.is (by have := hb5;  have := hb8;  have := hb16;  have := hb20;  have := hb25;  have := hb30;  have := hb34;  have := hb40;  have := hb46;  have := hb54;  have := hb60; simp only [Bool.or_eq_true, Bool.or_eq_false_iff, decide_eq_true_eq, decide_eq_false_iff_not] at *; first | (rw [behB_1 (by omega)] <;> first | rfl | (simp only [List.append_assoc]; done)) | (rw [behB_2 (by omega)] <;> first | rfl | (simp only [List.append_assoc]; done)) | (rw [behB_3 (by omega)] <;> first | rfl | (simp only [List.append_assoc]; done)) | (rw [behB_4 (by omega)] <;> first | rfl | (simp only [List.append_assoc]; done)) | (rw [behB_8 (by omega)] <;> first | rfl | (simp only [List.append_assoc]; done)) | (rw [behB_9 (by omega)] <;> first | rfl | (simp only [List.append_assoc]; done)) | (rw [behB_14 (by omega)] <;> first | rfl | (simp only [List.append_assoc]; done)) | (rw [behB_0 (by omega) (by omega) (by omega) (by omega) (by omega) (by omega) (by omega), List.append_nil])) (by omega)⟩
 refine wp_seq_k (fun K66 hK66 => ?_)
 refine wp_seq_k (fun K67 hK67 => gx_region ?_)
 refine zb (rn_eql) ?_; intro A F
 refine zd ?_; intro A F
 refine wpList_nil (hK67 _ _ ?_)
 refine zc (fun hb68 => ?_) (fun hb68 => ?_)
 ·skip
  refine wp_skip (hK66 _ _ ?_)
  refine wp_cond_true ((F.e rfl).trans (congrArg Value.bool hb68)) ?_
  refine gx_region ?_
  refine zd ?_; intro A F
  refine hz_do F rfl (ex_load rfl (F.e rfl) (gl_agg ((Pk.cells p s)) rfl (ga_33 _) (gs_33 _) (fun i => H.cs 0 rfl i))) ?_; intro A F
  refine hz_callR (FmP w0 _ f v (k + 100) (l ++ shortB v p)) F rfl (ex_call rfl rfl (gx_l1 (F.e rfl) (gx_l1 (F.e rfl) gx_l0)) fn_100) (short_any8 w0 _ f v _ _ ⟨H.k, trivial⟩ hZ.m p s hp hF hR hT (by omega)) (fun _ _ h => H.formed hZ h.2 (fa1 ⟨(show 33 ≠ 5 by decide), (show 33 ≠ 90 by decide)⟩ ft0)) ?_; clear F H A; intro vv W A hR H F; obtain ⟨rfl, hZ9⟩ := hR
  replace hZ := hZ.step hZ9; clear hZ9
  refine wpList_nil ?_
  refine (show bodyPost _ Tryz.f44 RR Exit.normal _ _ from zn0 ?_)
  exact ⟨_, rfl, rfl, hZ.is (by have := hb5;  have := hb8;  have := hb16;  have := hb20;  have := hb25;  have := hb30;  have := hb34;  have := hb40;  have := hb46;  have := hb54;  have := hb60;  have := hb68; simp only [Bool.or_eq_true, Bool.or_eq_false_iff, decide_eq_true_eq, decide_eq_false_iff_not] at *; first | (rw [behB_1 (by omega)] <;> first | rfl | (simp only [List.append_assoc]; done)) | (rw [behB_2 (by omega)] <;> first | rfl | (simp only [List.append_assoc]; done)) | (rw [behB_3 (by omega)] <;> first | rfl | (simp only [List.append_assoc]; done)) | (rw [behB_4 (by omega)] <;> first | rfl | (simp only [List.append_assoc]; done)) | (rw [behB_8 (by omega)] <;> first | rfl | (simp only [List.append_assoc]; done)) | (rw [behB_9 (by omega)] <;> first | rfl | (simp only [List.append_assoc]; done)) | (rw [behB_14 (by omega)] <;> first | rfl | (simp only [List.append_assoc]; done)) | (rw [behB_0 (by omega) (by omega) (by omega) (by omega) (by omega) (by omega) (by omega), List.append_nil])) (by omega)⟩
 refine gx_region ?_
 refine zb (rn_eql) ?_; intro A F
 refine zd ?_; intro A F
 refine wpList_nil (hK66 _ _ ?_)
 refine zc (fun hb70 => ?_) (fun hb70 => ?_)
 ·skip
  refine gx_region ?_
  refine zd ?_; intro A F
  refine hz_do F rfl (ex_load rfl (F.e rfl) (gl_agg ((Pk.cells p s)) rfl (ga_33 _) (gs_33 _) (fun i => H.cs 0 rfl i))) ?_; intro A F
  refine hz_callR (FmP w0 _ f v (k + 100) (l ++ shortB v p)) F rfl (ex_call rfl rfl (gx_l1 (F.e rfl) (gx_l1 (F.e rfl) gx_l0)) fn_100) (short_any8 w0 _ f v _ _ ⟨H.k, trivial⟩ hZ.m p s hp hF hR hT (by omega)) (fun _ _ h => H.formed hZ h.2 (fa1 ⟨(show 33 ≠ 5 by decide), (show 33 ≠ 90 by decide)⟩ ft0)) ?_; clear F H A; intro vv W A hR H F; obtain ⟨rfl, hZ9⟩ := hR
  replace hZ := hZ.step hZ9; clear hZ9
  refine wpList_nil ?_
  refine (show bodyPost _ Tryz.f44 RR Exit.normal _ _ from zn0 ?_)
  exact ⟨_, rfl, rfl, hZ.is (by have := hb5;  have := hb8;  have := hb16;  have := hb20;  have := hb25;  have := hb30;  have := hb34;  have := hb40;  have := hb46;  have := hb54;  have := hb60;  have := hb68;  have := hb70; simp only [Bool.or_eq_true, Bool.or_eq_false_iff, decide_eq_true_eq, decide_eq_false_iff_not] at *; first | (rw [behB_1 (by omega)] <;> first | rfl | (simp only [List.append_assoc]; done)) | (rw [behB_2 (by omega)] <;> first | rfl | (simp only [List.append_assoc]; done)) | (rw [behB_3 (by omega)] <;> first | rfl | (simp only [List.append_assoc]; done)) | (rw [behB_4 (by omega)] <;> first | rfl | (simp only [List.append_assoc]; done)) | (rw [behB_8 (by omega)] <;> first | rfl | (simp only [List.append_assoc]; done)) | (rw [behB_9 (by omega)] <;> first | rfl | (simp only [List.append_assoc]; done)) | (rw [behB_14 (by omega)] <;> first | rfl | (simp only [List.append_assoc]; done)) | (rw [behB_0 (by omega) (by omega) (by omega) (by omega) (by omega) (by omega) (by omega), List.append_nil])) (by omega)⟩
 refine wp_skip ?_
 refine (show bodyPost _ Tryz.f44 RR Exit.normal _ _ from zn0 ?_)
 exact ⟨_, rfl, rfl, hZ.is (by have := hb5;  have := hb8;  have := hb16;  have := hb20;  have := hb25;  have := hb30;  have := hb34;  have := hb40;  have := hb46;  have := hb54;  have := hb60;  have := hb68;  have := hb70; simp only [Bool.or_eq_true, Bool.or_eq_false_iff, decide_eq_true_eq, decide_eq_false_iff_not] at *; first | (rw [behB_1 (by omega)] <;> first | rfl | (simp only [List.append_assoc]; done)) | (rw [behB_2 (by omega)] <;> first | rfl | (simp only [List.append_assoc]; done)) | (rw [behB_3 (by omega)] <;> first | rfl | (simp only [List.append_assoc]; done)) | (rw [behB_4 (by omega)] <;> first | rfl | (simp only [List.append_assoc]; done)) | (rw [behB_8 (by omega)] <;> first | rfl | (simp only [List.append_assoc]; done)) | (rw [behB_9 (by omega)] <;> first | rfl | (simp only [List.append_assoc]; done)) | (rw [behB_14 (by omega)] <;> first | rfl | (simp only [List.append_assoc]; done)) | (rw [behB_0 (by omega) (by omega) (by omega) (by omega) (by omega) (by omega) (by omega), List.append_nil])) (by omega)⟩
def encL (v : Int) (p : Pk) : List UInt8 := if rightP v p = true then encB v p else []
theorem sizeN_0 {v : Int} {p : Pk} (h : decide (sizeN v p = 0) = true) : rightP v p = false := by
 have h := of_decide_eq_true h
 unfold sizeN at h
 split at h
 ·omega
 ·rename_i h2; simpa using h2
theorem sizeN_1 {v : Int} {p : Pk} (h : decide (sizeN v p = 0) = false) : rightP v p = true := by
 have h := of_decide_eq_false h
 unfold sizeN at h
 split at h
 ·rename_i h2; exact h2
 ·omega
def EncIs (v : Int) (p : Pk) (w : World) (u : Value) (w' : World) : Prop :=
 ∃ a c, u = .tuple #[.slice a (encL v p).length c, .int .i64 (if rightP v p = true then 0 else 1)] ∧ w'.ownsRow w.heap.size 5 1 (.slice a (encL v p).length c) (encL v p).length (B8 (encL v p))
theorem encIs_no {v : Int} {p : Pk} {w w' : World} (h : rightP v p = false) : EncIs v p w (.tuple #[.slice none 0 0, .int .i64 1]) w' := by
 refine ⟨none, 0, ?_, ?_⟩
 ·unfold encL; rw [h]; rfl
 ·unfold encL; rw [h]; exact own_nil w'
theorem make_bytes (w : World) (n B : Nat) (h : n ≤ 281474976710656) (hB : B ≤ w.heap.size) : ∃ w', (Instr.makeSlice 25 (.int .i64 0) (.int .i64 n)).run Tryz.prog w = .ok (.slice (some ⟨w.heap.size, 0, none⟩) 0 n) w' ∧ w'.ownsRow B 5 1 (.slice (some ⟨w.heap.size, 0, none⟩) 0 n) 0 [] ∧ w.grownBy w' none := by
 obtain ⟨i0, hi, hz0, hz1, hz2⟩ := info_parts info_u8
 exact run_make_own (P := Tryz.prog) w B 25 5 i0 _ 1 Tryz.underlying25 hi hz0 hz1 .i64 .i64 n (by rw [hz2]; omega) (by unfold maxLen; omega) hB
set_option maxHeartbeats 4000000 in
theorem encode_any (v : Int) (p : Pk) (s : Sl) (w : World) (hp : p.At s w) (hF : Fit p) (hT : Tabs w) (hcn : s.ca = none → s.cc = 0) :
  Calls Tryz.prog 18 #[.int .i64 v, p.val s] w fun e w' => ∃ u, e = .returned u ∧ EncIs v p w u w' ∧ Kept No w w' := by
 let RR : Ending → World → Prop := fun e w' => ∃ u, e = .returned u ∧ EncIs v p w u w' ∧ Kept No w w'
 go_enter Tryz.func18, Tryz.ntmps18
 generalize hA : ({ tmps := _, defers := [] } : Act) = A
 have F : Fr A 33 [(1, (Pk.val p s)), (0, (.int .i64 v))] := by rw [← hA]; exact (Fr.cons (i := 1) (v := (Pk.val p s)) (Fr.cons (i := 0) (v := (.int .i64 v)) (Fr.nil0 rfl rfl) rfl) rfl)
 clear hA; have H := Hp.start w
 refine wp_seq_k (fun K1 hK1 => gx_region ?_)
 refine hz_new (c := (Pk.cells p s)) (t := 33) F H rfl (ex_box rfl (F.e rfl) (gx_box _ _)) ?_; clear F A; intro b2 W A hk hN H9 F; clear H; have H := H9; clear H9
 clear hk hN
 iterate 2 (refine zd ?_; intro A F)
 refine wpList_nil (hK1 _ _ ?_)
 refine wp_seq_k (fun K3 hK3 => gx_region ?_)
 refine zd ?_; intro A F
 refine hz_do F rfl (ex_load rfl (F.e rfl) (gl_agg ((Pk.cells p s)) rfl (ga_33 _) (gs_33 _) (fun i => H.cs 0 rfl i))) ?_; intro A F
 refine hz_callk F H rfl (ex_call rfl rfl (gx_l1 (F.e rfl) (gx_l1 (F.e rfl) gx_l0)) fn_20) (size_any8 v p s _ (hp.kept H.k) hF (hT.kept H.k)) ?_; clear F H A; intro W A hk H F
 clear hk
 refine zd ?_; intro A F
 refine wpList_nil (hK3 _ _ ?_)
 refine wp_seq_k (fun K5 hK5 => ?_)
 refine wp_seq_k (fun K6 hK6 => gx_region ?_)
 refine zd ?_; intro A F
 refine zb (rn_eqlN (i := sizeN v p) (j := 0)) ?_; intro A F
 refine wpList_nil (hK6 _ _ ?_)
 refine zc (fun hb7 => ?_) (fun hb7 => ?_)
 ·skip
  refine wp_seq_k (fun K8 hK8 => gx_region ?_)
  iterate 2 (refine zd ?_; intro A F)
  refine wpList_nil (hK8 _ _ ?_)
  refine gx_ret ?_
  refine (show bodyPost _ Tryz.f18 RR Exit.ret _ _ from zr2 ?_)
  exact ⟨_, rfl, encIs_no (sizeN_0 hb7), H.k⟩
 refine wp_skip (hK5 _ _ ?_)
 refine wp_seq_k (fun K9 hK9 => gx_region ?_)
 iterate 2 (refine zd ?_; intro A F)
 have hR := right_ri (sizeN_1 hb7); have hsz : sizeN v p ≤ 300000000 := by have := hR.rest; have := varL_le (restN v p); unfold sizeN; split <;> omega
 have hfl := flagsN_lt hR; have hk1 := hR.k1; have hk2 := hR.k2; have hv := hR.hv
 obtain ⟨W9, hr9, hO, hg9⟩ := make_bytes W (sizeN v p) w.heap.size (by omega) H.size
 have hk9 : Kept No W W9 := (Kept.refl No W).grown hg9 (by simp)
 obtain ⟨bb, hbb⟩ : ∃ b, b = W.heap.size := ⟨_, rfl⟩; rw [← hbb] at hr9 hO
 refine hz_do (v := .slice (some ⟨bb, 0, none⟩) 0 (sizeN v p)) F rfl (ex_makeSlice rfl gx_evc (F.e rfl) hr9) ?_; intro A F
 replace H := H.kept hk9; clear hr9 hg9 hk9 hbb
 refine hz_do (v := (.agg #[(.int .i64 v), (.slice ((some ⟨bb, 0, none⟩)) 0 ((sizeN v p)))])) F rfl (ex_build rfl (gx_p1 (F.e rfl) (gx_p1 (F.e rfl) gx_p0)) (by kernel_rfl)) ?_; intro A F
 refine hz_new (c := #[(.int .i64 0), (.slice none 0 0)]) (t := 90) F H rfl (ex_alloc rfl (al_90 _)) ?_; clear F A; intro b10 W A hk hN H9 F; clear H; have H := H9; clear H9
 replace hO := og_kept hO hk
 clear hk hN
 obtain ⟨W9, hr, hB, hk⟩ := gx_storeAgg (P := Tryz.prog) (S := 90) (c := #[(.int .i64 v), (.slice ((some ⟨bb, 0, none⟩)) 0 ((sizeN v p)))]) _ (H.b.at_ (j := 0) rfl).1 (gs_90 _) rfl (by simp [Value.oneCell'])
 replace hO := og_far hO (H.b.at_ (j := 0) rfl).1 (show 90 ≠ 5 by decide) hk
 refine hz_st (ex_store rfl (F.e rfl) (F.e rfl) hr) ?_; clear hr; replace H : Hp _ _ [_, _] := Hp.turn [] H hk hB; clear hk hB
 refine wpList_nil (hK9 _ _ ?_)
 refine wp_seq_k (fun K11 hK11 => ?_)
 have hfB := H.b.at_ (j := 0) rfl
 have hZ : FmK w W9 b10 v 0 [] W9 := Fm.start ⟨_, _, hfB.1, hO, hfB.2, Nat.zero_le _⟩
 replace H := H.tl; clear hfB hO
 obtain ⟨f, hff⟩ : ∃ f, f = b10 := ⟨_, rfl⟩; rw [← hff] at F hZ
 obtain ⟨w1, hZ⟩ : ∃ w1, FmK w w1 f v 0 [] W9 := ⟨_, hZ⟩
 clear hff
 refine wp_region_held_drew (S := fun wx => Hp _ wx _) (by kernel_rfl) H.drew (fun H9 => ?_); clear H; have H := H9; clear H9
 replace hZ := hZ.no (Kept.refl No _).drew
 generalize World.drew _ = W at *
 refine td 0 ?_; intro A F
 refine td 1 ?_; intro A F
 refine hzh_do (v := (.int .u8 ((p.kind.toNat : Int)))) (i := 2) F rfl rfl (by kernel_rfl) (fun _ _ _ h => h) (H) (fun wz H => (ex_conv rfl (F.e rfl) (cvI8 p.kind _ (by omega) (by omega)))) ?_; intro A F
 refine hzh_do (i := 3) F rfl rfl (by kernel_rfl) (fun _ _ _ h => h) (H) (fun wz H => (ex_bin rfl gx_evc (F.e rfl) (rn_mul (gx_wrap_u8 (by omega) (by omega))))) ?_; intro A F
 refine hzh_do (i := 4) F rfl rfl (by kernel_rfl) (fun _ _ _ h => h) (H) (fun wz H => (ex_load rfl (F.e rfl) (gl_agg ((Pk.cells p s)) rfl (ga_33 _) (gs_33 _) (fun i => H.cs 0 rfl i)))) ?_; intro A F
 refine hb_one (i := 5) (by kernel_rfl) (hb_callk (i := 5) F rfl rfl (ex_call rfl rfl (gx_l1 (F.e rfl) gx_l0) fn_21) (flags_any v p s _ hR) (fun _ hk => (H.kept hk)) ?_); clear F A; intro W A hk _ F; replace H := H.kept hk
 replace hZ := hZ.no hk
 clear hk
 refine hzh_do (i := 6) F rfl rfl (by kernel_rfl) (fun _ _ _ h => h) (H) (fun wz H => (ex_bin rfl (F.e rfl) (F.e rfl) (rn_add (gx_wrap_u8 (by omega) (by omega))))) ?_; intro A F
 refine hb_one (i := 7) (by kernel_rfl) (hb_callR (i := 7) (FmP w _ f v (0 + 1) ([] ++ by1 (16 * p.kind.toNat + flagsN p))) F rfl rfl (ex_call rfl rfl (gx_l1 (F.e rfl) (gx_l1 (F.e rfl) gx_l0)) fn_42) (one_any8 w _ f v _ _ ⟨H.k, trivial⟩ hZ.m (16 * p.kind.toNat + flagsN p) (by omega) (by omega)) (fun _ _ h => H.formed hZ h.2 (fa1 ⟨(show 33 ≠ 5 by decide), (show 33 ≠ 90 by decide)⟩ ft0)) (fun _ H => H) ?_); clear F H A; intro vv W A hR H F; obtain ⟨rfl, hZ9⟩ := hR
 replace hZ := hZ.step hZ9; clear hZ9
 refine wpAnyH_done (by kernel_rfl) ?_ _
 refine hK11 _ _ ?_
 refine wp_seq_k (fun K14 hK14 => gx_region ?_)
 refine zd ?_; intro A F
 refine hz_do F rfl (ex_load rfl (F.e rfl) (gl_agg ((Pk.cells p s)) rfl (ga_33 _) (gs_33 _) (fun i => H.cs 0 rfl i))) ?_; intro A F
 refine hz_callk F H rfl (ex_call rfl rfl (gx_l1 (F.e rfl) (gx_l1 (F.e rfl) gx_l0)) fn_26) (Rest_any v p s _ (hp.kept H.k) hF (hT.kept H.k) hR.filt) ?_; clear F H A; intro W A hk H F
 replace hZ := hZ.no hk
 clear hk
 refine hz_callR (FmP w _ f v ((0 + 1) + 1) (([] ++ by1 (16 * p.kind.toNat + flagsN p)) ++ varL (restN v p))) F rfl (ex_call rfl rfl (gx_l1 (F.e rfl) (gx_l1 (F.e rfl) gx_l0)) fn_43) (number_any8 w _ f v _ _ ⟨H.k, trivial⟩ hZ.m (restN v p) hR.rest (by omega)) (fun _ _ h => H.formed hZ h.2 (fa1 ⟨(show 33 ≠ 5 by decide), (show 33 ≠ 90 by decide)⟩ ft0)) ?_; clear F H A; intro vv W A hR H F; obtain ⟨rfl, hZ9⟩ := hR
 replace hZ := hZ.step hZ9; clear hZ9
 refine wpList_nil (hK14 _ _ ?_)
 refine wp_seq_k (fun K17 hK17 => gx_region ?_)
 refine hz_do F rfl (ex_load rfl (F.e rfl) (gl_agg ((Pk.cells p s)) rfl (ga_33 _) (gs_33 _) (fun i => H.cs 0 rfl i))) ?_; intro A F
 refine hz_callR (FmP w _ f v (((0 + 1) + 1) + 40000) ((([] ++ by1 (16 * p.kind.toNat + flagsN p)) ++ varL (restN v p)) ++ behB v p)) F rfl (ex_call rfl rfl (gx_l1 (F.e rfl) (gx_l1 (F.e rfl) gx_l0)) fn_44) (fields_any8 w _ f v _ _ ⟨H.k, trivial⟩ hZ.m p s hp hF hR hT hcn (by omega)) (fun _ _ h => H.formed hZ h.2 (fa1 ⟨(show 33 ≠ 5 by decide), (show 33 ≠ 90 by decide)⟩ ft0)) ?_; clear F H A; intro vv W A hR H F; obtain ⟨rfl, hZ9⟩ := hR
 replace hZ := hZ.step hZ9; clear hZ9
 refine wpList_nil (hK17 _ _ ?_)
 refine wp_seq_k (fun K19 hK19 => ?_)
 replace hZ := hZ.is (l' := encB v p) (k' := 100000) (by unfold encB; rw [behB_len v p hF.wf]; simp only [List.nil_append, List.append_assoc]) (by omega)
 obtain ⟨⟨a, c, hB, hO, hf, hl⟩, -⟩ := hZ
 refine gx_region ?_
 refine hz_fld F rfl rfl (F.e rfl) (fa_90_1 _ _ _) (ag_25 _) (hB.cell 1) ?_; intro A F
 iterate 2 (refine zd ?_; intro A F)
 refine wpList_nil (hK19 _ _ ?_)
 refine gx_ret ?_
 refine (show bodyPost _ Tryz.f18 RR Exit.ret _ _ from zr2 ?_)
 exact ⟨_, rfl, by unfold EncIs encL; rw [if_pos (sizeN_1 hb7), if_pos (sizeN_1 hb7)]; exact ⟨a, c, rfl, hO⟩, H.k⟩
theorem fn_18 (args : Array Value) (w : World) : (callFunc 18 args).run Tryz.prog w = .ok (.enter 18 args) w := gx_fn Tryz.func18 (by kernel_rfl) rfl args w
theorem fn_16 (args : Array Value) (w : World) : (callFunc 16 args).run Tryz.prog w = .ok (.enter 16 args) w := gx_fn Tryz.func16 (by kernel_rfl) rfl args w
def tq8 : Pk := { zk 3 with qos := 1, topic := ⟨#[97]⟩, id := 7, load := ⟨#[120]⟩ }
theorem tq8_at (w : World) : tq8.At ts w := ⟨.nil _ _, .nil _ _, .nil _ _, .nil _ _⟩
theorem tq8_fit : Fit tq8 := ⟨⟨by decide, by decide, by decide, by decide⟩, ⟨by simp [tq8, zk], by simp [tq8, zk]⟩, ⟨by decide, by decide, by decide, by decide, by decide, by decide, by decide, by decide, by decide, by decide, by decide, by simp [tq8, zk], by simp [tq8, zk], by simp [tq8, zk]⟩, by decide, by decide, by decide, by decide, by decide, by simp [tq8, zk]⟩
theorem tq8_right : rightP 4 tq8 = true := by decide +kernel
theorem tq8_enc : encL 4 tq8 = [50, 6, 0, 1, 97, 0, 7, 120] := by kernel_rfl
theorem tq8_size : sizeN 4 tq8 = 8 := by kernel_rfl
theorem tq8_rest : restN 4 tq8 = 6 := by kernel_rfl
theorem tq8_flags : flagsN tq8 = 2 := by kernel_rfl
def eN (v : Int) (p : Pk) : Nat := if rightP v p = true then 0 else 1
def EncA (v : Int) (p : Pk) (u : Value) (w : World) : Prop := ∃ a c, u = .tuple #[.slice a (encL v p).length c, .int .i64 (eN v p : Int)] ∧ Row w a (B8 (encL v p)) ∧ (a = none → c = 0)
theorem encA {v : Int} {p : Pk} {w : World} {f : Nat} {args : Array Value} (h : Calls Tryz.prog f args w fun e w' => ∃ u, e = .returned u ∧ EncIs v p w u w' ∧ Kept No w w') : Calls Tryz.prog f args w fun e w' => ∃ u, e = .returned u ∧ EncA v p u w' ∧ Kept No w w' := by
 refine h.mono fun e w' ⟨u, h1, ⟨a, c, h2, h3⟩, h4⟩ => ⟨u, h1, ⟨a, c, ?_, (own_row h3).1, fun e => ((own_row h3).2 e).2⟩, h4⟩
 rw [h2]
 unfold eN
 split <;> rfl
theorem str8 {w : World} {a : Option Addr} {l : List UInt8} {c : Nat} (h : Row w a (B8 l)) (hn : a = none → c = 0) : (convert 25 9 (.slice a l.length c)).run Tryz.prog w = .ok (.string ⟨l.toArray⟩) w := str_at (Lib.hid rfl) h c hn
theorem size_len {v : Int} {p : Pk} (hw : Wf p) : sizeN v p = (encL v p).length := by
 unfold sizeN encL
 split
 ·unfold encB
  rw [List.length_append, List.length_append, b1_len, behB_len v p hw]
 ·rfl
set_option maxHeartbeats 4000000 in
theorem told8_any (w : World) (hT : Tabs w) : Calls Tryz.prog 16 #[] w fun e w' => e = .returned (.bool true) ∧ Kept No w w' := by
 let RR : Ending → World → Prop := fun e w' => e = .returned (.bool true) ∧ Kept No w w'
 go_enter Tryz.func16, Tryz.ntmps16
 generalize hA : ({ tmps := _, defers := [] } : Act) = A
 have F : Fr A 32 [] := by rw [← hA]; exact (Fr.nil0 rfl rfl)
 clear hA; have H := Hp.start w
 refine wp_seq_k (fun K1 hK1 => gx_region ?_)
 refine zd ?_; intro A F
 refine wpList_nil (hK1 _ _ ?_)
 refine wp_seq_k (fun K2 hK2 => gx_region ?_)
 refine hz_do (v := (Pk.val tq8 ts)) F rfl (ex_build rfl (gx_p1 gx_evc (gx_p1 gx_evc (gx_p1 gx_evc (gx_p1 gx_evc (gx_p1 gx_evc gx_p0))))) (by kernel_rfl)) ?_; intro A F
 refine hz_new (c := zeroPk) (t := 33) F H rfl (ex_alloc rfl (al_33 _)) ?_; clear F A; intro b3 W A hk hN H9 F; clear H; have H := H9; clear H9
 clear hk hN
 obtain ⟨W9, hr, hB, hk⟩ := gx_storeAgg (P := Tryz.prog) (S := 33) (c := (Pk.cells tq8 ts)) _ (H.b.at_ (j := 0) rfl).1 (gs_33 _) rfl (pk_one _ _)
 refine hz_st (ex_store rfl (F.e rfl) (F.e rfl) hr) ?_; clear hr; replace H : Hp _ _ [_] := Hp.turn [] H hk hB; clear hk hB
 refine wpList_nil (hK2 _ _ ?_)
 refine wp_seq_k (fun K4 hK4 => gx_region ?_)
 refine hz_do F rfl (ex_load rfl (F.e rfl) (gl_agg ((Pk.cells tq8 ts)) rfl (ga_33 _) (gs_33 _) (fun i => H.cs 0 rfl i))) ?_; intro A F
 refine hz_call (R := EncA 4 tq8) F H rfl (ex_call rfl rfl (gx_l1 gx_evc (gx_l1 (F.e rfl) gx_l0)) fn_18) (encA (encode_any 4 tq8 ts _ (tq8_at _) tq8_fit (hT.kept H.k) (fun _ => rfl))) ?_; clear F H A; intro vv W A hR hk H F; obtain ⟨ae5, ce5, rfl, hRE5, hNE5⟩ := hR
 clear hk
 obtain ⟨wE5, KE5, hRE5⟩ : ∃ w1, Kept No w1 W ∧ Row w1 ae5 (B8 (encL 4 tq8)) := ⟨W, Kept.refl No W, hRE5⟩
 iterate 5 (refine zd ?_; intro A F)
 refine wpList_nil (hK4 _ _ ?_)
 refine wp_seq_k (fun K6 hK6 => gx_region ?_)
 refine zd ?_; intro A F
 refine zb (rn_eqlN (i := eN 4 tq8) (j := 0)) ?_; intro A F
 refine zd ?_; intro A F
 refine zg ?_; intro A F
 refine hz_g F rfl (hw_t F rfl rfl rfl) (fun hG => (ex_conv rfl (F.o rfl hG) (str8 (hRE5.keptNo KE5) hNE5))) ?_; intro A F
 refine zgb (rn_seql) ?_; intro A F
 refine hz_do F rfl (ex_pickA rfl (F.e rfl) (fun hx => (F.o rfl hx)) rfl) ?_; intro A F
 refine zd ?_; intro A F
 refine hz_g F rfl (hw_t F rfl rfl rfl) (fun hG => (ex_load rfl (F.e rfl) (gl_agg ((Pk.cells tq8 ts)) rfl (ga_33 _) (gs_33 _) (fun i => H.cs 0 rfl i)))) ?_; intro A F
 refine hz_callg F H rfl (hw_t F rfl rfl rfl) (fun hG => (ex_call rfl rfl (gx_l1 gx_evc (gx_l1 (F.o rfl hG) gx_l0)) fn_20)) (fun hG => size_any8 4 tq8 ts _ (tq8_at _) tq8_fit (hT.kept H.k)) ?_; clear F H A; intro W A hk H F
 replace KE5 := KE5.trans hk
 clear hk
 refine zgb (rn_eqlN (i := sizeN 4 tq8) (j := 8)) ?_; intro A F
 refine hz_do F rfl (ex_pickA rfl (F.e rfl) (fun hx => (F.o rfl hx)) rfl) ?_; intro A F
 refine zd ?_; intro A F
 refine hz_g F rfl (hw_t F rfl rfl rfl) (fun hG => (ex_load rfl (F.e rfl) (gl_agg ((Pk.cells tq8 ts)) rfl (ga_33 _) (gs_33 _) (fun i => H.cs 0 rfl i)))) ?_; intro A F
 refine hz_callg F H rfl (hw_t F rfl rfl rfl) (fun hG => (ex_call rfl rfl (gx_l1 (F.o rfl hG) gx_l0) fn_21)) (fun hG => flags_any 4 tq8 ts _ (right_ri tq8_right)) ?_; clear F H A; intro W A hk H F
 replace KE5 := KE5.trans hk
 clear hk
 refine zgb (rn_eqlN (i := flagsN tq8) (j := 2)) ?_; intro A F
 refine hz_do F rfl (ex_pickA rfl (F.e rfl) (fun hx => (F.o rfl hx)) rfl) ?_; intro A F
 refine zd ?_; intro A F
 refine hz_g F rfl (hw_t F rfl rfl rfl) (fun hG => (ex_load rfl (F.e rfl) (gl_agg ((Pk.cells tq8 ts)) rfl (ga_33 _) (gs_33 _) (fun i => H.cs 0 rfl i)))) ?_; intro A F
 refine hz_callg F H rfl (hw_t F rfl rfl rfl) (fun hG => (ex_call rfl rfl (gx_l1 gx_evc (gx_l1 (F.o rfl hG) gx_l0)) fn_26)) (fun hG => Rest_any 4 tq8 ts _ (tq8_at _) tq8_fit (hT.kept H.k) (by simp [tq8, zk])) ?_; clear F H A; intro W A hk H F
 replace KE5 := KE5.trans hk
 clear hk
 refine zgb (rn_eqlN (i := restN 4 tq8) (j := 6)) ?_; intro A F
 refine hz_do F rfl (ex_pickA rfl (F.e rfl) (fun hx => (F.o rfl hx)) rfl) ?_; intro A F
 refine zd ?_; intro A F
 refine wpList_nil (hK6 _ _ ?_)
 refine gx_ret ?_
 refine (show bodyPost _ Tryz.f16 RR Exit.ret _ _ from zr ?_)
 exact ⟨congrArg (fun b => Ending.returned (.bool b)) (by rw [tq8_enc, tq8_size, tq8_rest, tq8_flags]; unfold eN; rw [tq8_right]; decide), H.k⟩
end Go.Proofs.YtomppebamfpimaaGreatDoor
