import Derived.Test.YtbddcogjeahfeaaGreatDoorYFV
import Derived.Test.YtbddcogjeahfeaaGreatDoorYFG
import Derived.Test.YtbddcogjeahfeaaGreatDoorZHto
import Derived.Test.YtbddcogjeahfeaaGreatDoorZLmA
import Derived.Test.YtbddcogjeahfeaaGreatDoorZLmP
namespace Go.Proofs.YtbddcogjeahfeaaGreatDoor
open Go.RowKit
set_option linter.unusedVariables false
set_option linter.unusedSimpArgs false
set_option maxRecDepth 100000
theorem ag_47 (w : World) : (isAgg 47).run Tryz.prog w = .ok false w := by kernel_rfl
instance : NA 47 := ⟨ag_47⟩
theorem ga_33 (w : World) : (isAgg 33).run Tryz.prog w = .ok true w := by kernel_rfl
theorem gs_33 (w : World) : (Go.sizeOf 33).run Tryz.prog w = .ok 8 w := by kernel_rfl
theorem ga_31 (w : World) : (isAgg 31).run Tryz.prog w = .ok true w := by kernel_rfl
theorem gs_31 (w : World) : (Go.sizeOf 31).run Tryz.prog w = .ok 8 w := by kernel_rfl
theorem fa_33_0 (B o : Nat) (w : World) : (Instr.fieldAt 33 (.pointer (some ⟨B, o, none⟩)) 0).run Tryz.prog w = .ok (.pointer (some ⟨B, o + 0, none⟩)) w := by
 have u := Tryz.underlying33
 go_simp
instance : FA 33 0 0 := ⟨fa_33_0⟩
theorem fa_33_1 (B o : Nat) (w : World) : (Instr.fieldAt 33 (.pointer (some ⟨B, o, none⟩)) 1).run Tryz.prog w = .ok (.pointer (some ⟨B, o + 1, none⟩)) w := by
 have u := Tryz.underlying33
 go_simp
instance : FA 33 1 1 := ⟨fa_33_1⟩
theorem fa_33_2 (B o : Nat) (w : World) : (Instr.fieldAt 33 (.pointer (some ⟨B, o, none⟩)) 2).run Tryz.prog w = .ok (.pointer (some ⟨B, o + 2, none⟩)) w := by
 have u := Tryz.underlying33
 go_simp
instance : FA 33 2 2 := ⟨fa_33_2⟩
theorem fa_33_3 (B o : Nat) (w : World) : (Instr.fieldAt 33 (.pointer (some ⟨B, o, none⟩)) 3).run Tryz.prog w = .ok (.pointer (some ⟨B, o + 3, none⟩)) w := by
 have u := Tryz.underlying33
 go_simp
instance : FA 33 3 3 := ⟨fa_33_3⟩
theorem fa_33_4 (B o : Nat) (w : World) : (Instr.fieldAt 33 (.pointer (some ⟨B, o, none⟩)) 4).run Tryz.prog w = .ok (.pointer (some ⟨B, o + 4, none⟩)) w := by
 have u := Tryz.underlying33
 go_simp
instance : FA 33 4 4 := ⟨fa_33_4⟩
theorem fa_33_5 (B o : Nat) (w : World) : (Instr.fieldAt 33 (.pointer (some ⟨B, o, none⟩)) 5).run Tryz.prog w = .ok (.pointer (some ⟨B, o + 5, none⟩)) w := by
 have u := Tryz.underlying33
 go_simp
instance : FA 33 5 5 := ⟨fa_33_5⟩
theorem fa_33_6 (B o : Nat) (w : World) : (Instr.fieldAt 33 (.pointer (some ⟨B, o, none⟩)) 6).run Tryz.prog w = .ok (.pointer (some ⟨B, o + 6, none⟩)) w := by
 have u := Tryz.underlying33
 go_simp
instance : FA 33 6 6 := ⟨fa_33_6⟩
theorem fa_33_7 (B o : Nat) (w : World) : (Instr.fieldAt 33 (.pointer (some ⟨B, o, none⟩)) 7).run Tryz.prog w = .ok (.pointer (some ⟨B, o + 7, none⟩)) w := by
 have u := Tryz.underlying33
 go_simp
instance : FA 33 7 7 := ⟨fa_33_7⟩
theorem fa_31_0 (B o : Nat) (w : World) : (Instr.fieldAt 31 (.pointer (some ⟨B, o, none⟩)) 0).run Tryz.prog w = .ok (.pointer (some ⟨B, o + 0, none⟩)) w := by
 have u := Tryz.underlying31
 go_simp
instance : FA 31 0 0 := ⟨fa_31_0⟩
theorem fa_31_1 (B o : Nat) (w : World) : (Instr.fieldAt 31 (.pointer (some ⟨B, o, none⟩)) 1).run Tryz.prog w = .ok (.pointer (some ⟨B, o + 1, none⟩)) w := by
 have u := Tryz.underlying31
 go_simp
instance : FA 31 1 1 := ⟨fa_31_1⟩
theorem fa_31_2 (B o : Nat) (w : World) : (Instr.fieldAt 31 (.pointer (some ⟨B, o, none⟩)) 2).run Tryz.prog w = .ok (.pointer (some ⟨B, o + 2, none⟩)) w := by
 have u := Tryz.underlying31
 go_simp
instance : FA 31 2 2 := ⟨fa_31_2⟩
theorem fa_31_3 (B o : Nat) (w : World) : (Instr.fieldAt 31 (.pointer (some ⟨B, o, none⟩)) 3).run Tryz.prog w = .ok (.pointer (some ⟨B, o + 3, none⟩)) w := by
 have u := Tryz.underlying31
 go_simp
instance : FA 31 3 3 := ⟨fa_31_3⟩
theorem fa_31_4 (B o : Nat) (w : World) : (Instr.fieldAt 31 (.pointer (some ⟨B, o, none⟩)) 4).run Tryz.prog w = .ok (.pointer (some ⟨B, o + 4, none⟩)) w := by
 have u := Tryz.underlying31
 go_simp
instance : FA 31 4 4 := ⟨fa_31_4⟩
theorem fa_31_5 (B o : Nat) (w : World) : (Instr.fieldAt 31 (.pointer (some ⟨B, o, none⟩)) 5).run Tryz.prog w = .ok (.pointer (some ⟨B, o + 5, none⟩)) w := by
 have u := Tryz.underlying31
 go_simp
instance : FA 31 5 5 := ⟨fa_31_5⟩
theorem fa_31_6 (B o : Nat) (w : World) : (Instr.fieldAt 31 (.pointer (some ⟨B, o, none⟩)) 6).run Tryz.prog w = .ok (.pointer (some ⟨B, o + 6, none⟩)) w := by
 have u := Tryz.underlying31
 go_simp
instance : FA 31 6 6 := ⟨fa_31_6⟩
theorem fa_31_7 (B o : Nat) (w : World) : (Instr.fieldAt 31 (.pointer (some ⟨B, o, none⟩)) 7).run Tryz.prog w = .ok (.pointer (some ⟨B, o + 7, none⟩)) w := by
 have u := Tryz.underlying31
 go_simp
instance : FA 31 7 7 := ⟨fa_31_7⟩
theorem fa_50_0 (B o : Nat) (w : World) : (Instr.fieldAt 50 (.pointer (some ⟨B, o, none⟩)) 0).run Tryz.prog w = .ok (.pointer (some ⟨B, o + 0, none⟩)) w := by
 have u := Tryz.underlying50
 go_simp
instance : FA 50 0 0 := ⟨fa_50_0⟩
theorem fa_50_1 (B o : Nat) (w : World) : (Instr.fieldAt 50 (.pointer (some ⟨B, o, none⟩)) 1).run Tryz.prog w = .ok (.pointer (some ⟨B, o + 1, none⟩)) w := by
 have u := Tryz.underlying50
 go_simp
instance : FA 50 1 1 := ⟨fa_50_1⟩
theorem al_33 (w : World) : (Instr.alloc 33 true (.tuple #[])).run Tryz.prog w = .ok (.pointer (some ⟨w.heap.size, 0, none⟩)) (w.alloc (.cells #[(.int .u16 0), (.int .u16 0), (.int .i64 0), (.int .u8 0), (.bool false), (.bool false), (.bool false), (.bool false)] 33)) := by kernel_rfl
theorem al_31 (w : World) : (Instr.alloc 31 true (.tuple #[])).run Tryz.prog w = .ok (.pointer (some ⟨w.heap.size, 0, none⟩)) (w.alloc (.cells #[(.int .u16 0), (.int .u16 0), (.int .i64 0), (.int .u8 0), (.bool false), (.bool false), (.bool false), (.bool false)] 31)) := by kernel_rfl
theorem fn_13 (args : Array Value) (w : World) : (callFunc 13 args).run Tryz.prog w = .ok (.enter 13 args) w := gx_fn Tryz.func13 (by kernel_rfl) rfl args w
theorem fn_8 (args : Array Value) (w : World) : (callFunc 8 args).run Tryz.prog w = .ok (.enter 8 args) w := gx_fn Tryz.func8 (by kernel_rfl) rfl args w
theorem fn_14 (args : Array Value) (w : World) : (callFunc 14 args).run Tryz.prog w = .ok (.enter 14 args) w := gx_fn Tryz.func14 (by kernel_rfl) rfl args w
theorem fn_7 (args : Array Value) (w : World) : (callFunc 7 args).run Tryz.prog w = .ok (.enter 7 args) w := gx_fn Tryz.func7 (by kernel_rfl) rfl args w
theorem fn_6 (args : Array Value) (w : World) : (callFunc 6 args).run Tryz.prog w = .ok (.enter 6 args) w := gx_fn Tryz.func6 (by kernel_rfl) rfl args w
theorem fn_12 (args : Array Value) (w : World) : (callFunc 12 args).run Tryz.prog w = .ok (.enter 12 args) w := gx_fn Tryz.func12 (by kernel_rfl) rfl args w
theorem fn_10 (args : Array Value) (w : World) : (callFunc 10 args).run Tryz.prog w = .ok (.enter 10 args) w := gx_fn Tryz.func10 (by kernel_rfl) rfl args w
theorem fn_17 (args : Array Value) (w : World) : (callFunc 17 args).run Tryz.prog w = .ok (.enter 17 args) w := gx_fn Tryz.func17 (by kernel_rfl) rfl args w
end Go.Proofs.YtbddcogjeahfeaaGreatDoor
