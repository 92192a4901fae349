import Derived.Test.YtbddcogjeahfeaaGreatDoorYFC
import Derived.Test.YtbddcogjeahfeaaGreatDoorYFN
namespace Go.Proofs.YtbddcogjeahfeaaGreatDoor
open Go.RowKit
set_option linter.unusedVariables false
set_option linter.unusedSimpArgs false
set_option maxRecDepth 100000
structure Lm where
 rc : Int
 al : Int
 sz : Int
 q : Int
 rt : Bool
 wi : Bool
 nu : Bool
 sh : Bool
deriving DecidableEq
def Lm.arr (l : Lm) : Array Value := #[.int .u16 l.rc, .int .u16 l.al, .int .i64 l.sz, .int .u8 l.q, .bool l.rt, .bool l.wi, .bool l.nu, .bool l.sh]
def Lm.val (l : Lm) : Value := .agg l.arr
def Lm.std : Lm := ⟨65535, 0, 268435460, 2, true, true, true, true⟩
def LmIs (l : Lm) (w : World) (e : Ending) (w' : World) : Prop := e = .returned l.val ∧ Kept No w w'
set_option maxHeartbeats 1000000 in
theorem default_any (w : World) : Calls Tryz.prog 13 #[] w (LmIs .std w) := by
 go_enter Tryz.func13, Tryz.ntmps13
 go_wp2
 exact bodyPost_ret (v := Lm.std.val) (by simp [results, Tryz.results13, go_sem, Lm.val, Lm.arr, Lm.std]) rfl ⟨rfl, (Kept.refl _ _).alloc _⟩
set_option maxHeartbeats 1000000 in
theorem rdefault_any (w : World) : Calls Tryz.prog 12 #[] w (LmIs .std w) := by
 go_enter Tryz.func12, Tryz.ntmps12
 go_wp2
 exact bodyPost_ret (v := Lm.std.val) (by simp [results, Tryz.results12, go_sem, Lm.val, Lm.arr, Lm.std]) rfl ⟨rfl, (Kept.refl _ _).alloc _⟩
def numL (L : List Pr) (i o : Nat) : Nat := ((getL L i).map Pr.n).getD o
def NumIs (n : Nat) (w : World) (e : Ending) (w' : World) : Prop := e = .returned (.int .u32 n) ∧ Kept No w w'
set_option maxHeartbeats 4000000 in
theorem rof13_any (p : Pk) (s : Sl) (i o : Nat) (w : World) (hp : p.At s w) (hl : p.props.length ≤ 100000) :
  Calls Tryz.prog 17 #[p.val s, .int .u8 i, .int .u32 o] w (NumIs (numL p.props i o) w) := by
 have hkB : Kept No w (w.alloc (.cells (p.cells s) 27)) := (Kept.refl No w).alloc _
 have hB1 := Blk.new w 27 (p.cells s)
 have CB := Lib.hid (fun wx (hk : Kept No (w.alloc (.cells (p.cells s) 27)) wx) (i : Nat) => (hB1.kept hk (fun f => f)).cell i)
 clear hB1
 have cG := fun wx (h : Row wx s.pa (PC p.props)) => rget_any s.pa s.pc p.props i wx h hl
 have hrow := hp.hp.keptNo hkB
 have HN : Hid (numL p.props i o = ((getL p.props i).map Pr.n).getD o) := Lib.hid rfl
 generalize numL p.props i o = n at *
 cases hg : getL p.props i with
 | none =>
  rw [hg] at cG HN
  have HG := Lib.hid (show ∀ wx, Row wx s.pa (PC p.props) → Calls Tryz.prog 22 #[.slice s.pa p.props.length s.pc, .int .u8 i] wx (fun e w' => e = .returned (.tuple #[.agg #[.int .u8 0, .int .u32 0, .string ⟨#[]⟩, .string ⟨#[]⟩], .bool false]) ∧ Kept No wx w') from cG)
  clear cG
  go_enter Tryz.func17, Tryz.ntmps17
  refine wp_seq_k (fun K9 hK9 => ?_)
  have HK := Lib.hid hK9
  clear hK9
  unfold Pk.val
  go_wp2
  refine HK.out _ _ ?_
  clear HK K9
  change Code.wp _ _ _ _ (w.alloc (.cells (p.cells s) 27))
  generalize w.alloc (.cells (p.cells s) 27) = wB at *
  have c24 : wB.cell? ⟨w.heap.size, 24, none⟩ = some (.slice s.pa p.props.length s.pc) := CB.out wB (Kept.refl _ _) 24
  go_wp2_with (go_at_call 22; refine (HG.out _ hrow).mono ?_; rintro e w3 ⟨rfl, hk3⟩)
  go_ret
  refine ⟨by rw [HN.out]; rfl, ?_⟩
  first | exact (hkB.trans hk3).alloc _ | (trace_state; sorry)
 | some x =>
  obtain ⟨id, xn, xA, xB⟩ := x
  rw [hg] at cG HN
  have HG := Lib.hid (show ∀ wx, Row wx s.pa (PC p.props) → Calls Tryz.prog 22 #[.slice s.pa p.props.length s.pc, .int .u8 i] wx (fun e w' => e = .returned (.tuple #[.agg #[.int .u8 id, .int .u32 xn, .string xA, .string xB], .bool true]) ∧ Kept No wx w') from cG)
  clear cG
  go_enter Tryz.func17, Tryz.ntmps17
  refine wp_seq_k (fun K9 hK9 => ?_)
  have HK := Lib.hid hK9
  clear hK9
  unfold Pk.val
  go_wp2
  refine HK.out _ _ ?_
  clear HK K9
  change Code.wp _ _ _ _ (w.alloc (.cells (p.cells s) 27))
  generalize w.alloc (.cells (p.cells s) 27) = wB at *
  have c24 : wB.cell? ⟨w.heap.size, 24, none⟩ = some (.slice s.pa p.props.length s.pc) := CB.out wB (Kept.refl _ _) 24
  go_wp2_with (go_at_call 22; refine (HG.out _ hrow).mono ?_; rintro e w3 ⟨rfl, hk3⟩)
  go_ret
  refine ⟨by rw [HN.out]; rfl, ?_⟩
  first | exact (hkB.trans hk3).alloc _ | (trace_state; sorry)
end Go.Proofs.YtbddcogjeahfeaaGreatDoor
