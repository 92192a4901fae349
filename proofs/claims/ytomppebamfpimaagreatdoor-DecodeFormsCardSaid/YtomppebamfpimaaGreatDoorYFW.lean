import Derived.Test.YtomppebamfpimaaGreatDoorYFG
import Derived.Test.YtomppebamfpimaaGreatDoorYF8
import Derived.Test.YtomppebamfpimaaGreatDoorYF3
import Derived.Test.YtomppebamfpimaaGreatDoorYFV
import Derived.Test.YtomppebamfpimaaGreatDoorYFB
import Derived.Test.YtomppebamfpimaaGreatDoorYFI
import Derived.Test.YtomppebamfpimaaGreatDoorYFK
namespace Go.Proofs.YtomppebamfpimaaGreatDoor
open Go.RowKit
set_option linter.unusedVariables false
set_option linter.unusedSimpArgs false
set_option maxRecDepth 100000
def mqtt : ByteArray := ⟨#[77, 81, 84, 84]⟩
structure Ri (v : Int) (p : Pk) : Prop where
 hv : v = 4 ∨ v = 5
 k1 : 1 ≤ p.kind
 k2 : p.kind ≤ 15
 bare : p = bareP p
 qos : p.qos ≤ 2
 wq : p.willQoS ≤ 2
 client : p.client.size ≤ 65535
 user : p.user.size ≤ 65535
 pass : p.pass.size ≤ 65535
 willTopic : p.willTopic.size ≤ 65535
 willLoad : p.willLoad.size ≤ 65535
 topic : p.topic.size ≤ 65535
 filt : ∀ f ∈ p.filters, f.text.size ≤ 65535
 nf : p.filters.length ≤ 1024
 nc : p.codes.length ≤ 1024
 rest : restN v p ≤ 268435455
def Fm (w0 w : World) (f : Nat) (v : Int) (k : Nat) (l : List UInt8) : Prop :=
 ∃ a c, Blk w f 90 #[.int .i64 v, .slice a l.length c] ∧ w.ownsRow w0.heap.size 5 1 (.slice a l.length c) l.length (B8 l) ∧ w0.heap.size ≤ f ∧ l.length ≤ k * 1000000000
def Ft (w0 w : World) (f : Nat) : Nat → Prop := fun b => b = f ∨ (w0.heap.size ≤ b ∧ ∃ cs, Blk w b 5 cs)
structure FmK (w0 w : World) (f : Nat) (v : Int) (k : Nat) (l : List UInt8) (W : World) : Prop where
 m : Fm w0 W f v k l
 k : Kept (Ft w0 w f) w W
section
variable {w0 w W W' : World} {f : Nat} {v : Int} {k k' : Nat} {l l' m : List UInt8} {M : List Bk}
theorem blk_one {w : World} {b : Nat} {t t' : TypeId} {c c' : Array Value} (h : Blk w b t c) (h' : Blk w b t' c') : t = t' := by
 unfold Blk at h h'
 rw [h] at h'
 injection h' with h'
 injection h' with _ h' _
theorem Fm.no (h : Fm w0 W f v k l) (hk : Kept No W W') : Fm w0 W' f v k l := by
 obtain ⟨a, c, hB, hO, hf, hl⟩ := h
 exact ⟨a, c, hB.kept hk (fun q => q), own_keptNo hO hk, hf, hl⟩
theorem FmK.no (h : FmK w0 w f v k l W) (hk : Kept No W W') : FmK w0 w f v k l W' := ⟨h.m.no hk, h.k.then hk (fun _ _ q => q.elim)⟩
theorem Fm.start (h : Fm w0 w f v k l) : FmK w0 w f v k l w := ⟨h, Kept.refl _ _⟩
theorem FmK.is (h : FmK w0 w f v k l W) (e : l = l') (hk : k ≤ k') : FmK w0 w f v k' l' W := by
 subst e
 obtain ⟨⟨a, c, hB, hO, hf, hl⟩, h2⟩ := h
 have hb : k * 1000000000 ≤ k' * 1000000000 := Nat.mul_le_mul hk (Nat.le_refl _)
 exact ⟨⟨a, c, hB, hO, hf, Nat.le_trans hl hb⟩, h2⟩
theorem FmK.step (h : FmK w0 w f v k l W) (h2 : FmK w0 W f v k' l' W') : FmK w0 w f v k' l' W' :=
 ⟨h2.m, h.k.then h2.k (fun i hi hT => by
  rcases hT with rfl | ⟨h3, cs, hB⟩
  ·exact .inl rfl
  ·by_cases hF : Ft w0 w f i
   ·exact hF
   ·have := h.k.block i hi hF
    exact .inr ⟨h3, cs, by unfold Blk at hB ⊢; rw [← this]; exact hB⟩)⟩
theorem FmK.st {b : Nat} {t : TypeId} {c : Array Value} (h : FmK w0 w f v k l W) (hb : Blk W b t c) (h1 : t ≠ 5) (h2 : t ≠ 90) (hN : w.heap.size ≤ b) (hk : Kept (One b) W W') : FmK w0 w f v k l W' := by
 obtain ⟨⟨a, c9, hB, hO, hf, hl⟩, hK⟩ := h
 refine ⟨⟨a, c9, hB.kept hk (fun e => ?_), own_sep hO hk (fun g cur hg hc => ?_), hf, hl⟩, hK.then hk (fun i hi e => ?_)⟩
 ·have e : f = b := e
  subst e
  exact h2 (blk_one hb hB)
 ·have e : g = b := hg
  subst e
  exact h1 (blk_one hb (show Blk W g 5 cur from hc))
 ·have e : i = b := e
  omega
theorem FmK.cell (h : FmK w0 w f v k l W) : W.cell? ⟨f, 0, none⟩ = some (.int .i64 v) := by
 obtain ⟨a, c, hB, -⟩ := h.m
 rw [hB.cell]; rfl
end
section
variable {P : Program} {ops : Array Oper} {Q : Exit → Act → World → Prop} {a : Act} {w w0 : World} {rest : List Oper} {N n : Nat} {L : List (Nat × Value)} {v : Value} {ty : TypeId} {ps : String} {af : Array Edge} {op : Op} {gd : Nat × Bool} {G X Y : Bool} {ρ : Operand → Value} {o : Oper}
theorem ex_nil {x : Operand} {b off : Nat} (ho : o.op = .nilCheck x) (hx : ρ x = .pointer (some ⟨b, off, none⟩)) : (execOp ρ o).run P w = .ok (.value (.pointer (some ⟨b, off, none⟩))) w := by simp [execOp, ho, hx]
variable {md : Region.Mode} {S : World → Prop} {fuel : Nat} {listed : Array Bool} {i : Nat}
theorem gx_res0 {fn : Func} (h : fn.results = #[]) : (results fn a.tmps).run P w = .ok (.tuple #[]) w := results_none h _ _ _
theorem zr0 {fn : Func} {R : Ending → World → Prop} (hR : R (.returned (.tuple #[])) w) (F : Fr a N L := by assumption) (h : fn.results = #[] := by rfl) : bodyPost P fn R Exit.ret a w := bodyPost_ret (gx_res0 h) F.d hR
theorem zn0 {fn : Func} {R : Ending → World → Prop} (hR : R (.returned (.tuple #[])) w) (F : Fr a N L := by assumption) (h : fn.results = #[] := by rfl) : bodyPost P fn R Exit.normal a w := bodyPost_end (gx_res0 h) F.d hR
end
theorem fa_90_0 (B o : Nat) (w : World) : (Instr.fieldAt 90 (.pointer (some ⟨B, o, none⟩)) 0).run Tryz.prog w = .ok (.pointer (some ⟨B, o + 0, none⟩)) w := by
 have u := Tryz.underlying90
 go_simp
instance : FA 90 0 0 := ⟨fa_90_0⟩
theorem fa_90_1 (B o : Nat) (w : World) : (Instr.fieldAt 90 (.pointer (some ⟨B, o, none⟩)) 1).run Tryz.prog w = .ok (.pointer (some ⟨B, o + 1, none⟩)) w := by
 have u := Tryz.underlying90
 go_simp
instance : FA 90 1 1 := ⟨fa_90_1⟩
theorem cvI8 (n : Int) (w : World) (h : 0 ≤ n) (h2 : n ≤ 255) : (convert 3 5 (.int .i64 n)).run Tryz.prog w = .ok (.int .u8 (n.toNat : Int)) w := by
 obtain ⟨m, rfl⟩ : ∃ m : Nat, n = (m : Int) := ⟨n.toNat, by omega⟩
 have u := Tryz.underlying3
 have u2 := Tryz.underlying5
 have e : IntKind.u8.wrap ((m : Int)) = (m : Int) := gx_wrap_u8 (by omega) (by omega)
 go_simp
 try exact e
end Go.Proofs.YtomppebamfpimaaGreatDoor
