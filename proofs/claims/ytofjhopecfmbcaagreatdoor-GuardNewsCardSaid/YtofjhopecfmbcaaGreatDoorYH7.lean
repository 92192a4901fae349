import Derived.Test.YtofjhopecfmbcaaGreatDoorYH6
import Derived.Test.YtofjhopecfmbcaaGreatDoorYH4
import Derived.Test.YtofjhopecfmbcaaGreatDoorYF1
import Derived.Test.YtofjhopecfmbcaaGreatDoorYF3
namespace Go.Proofs.YtofjhopecfmbcaaGreatDoor
open Go.RowKit
set_option linter.unusedVariables false
set_option linter.unusedSimpArgs false
set_option maxRecDepth 100000
set_option maxHeartbeats 8000000
section
variable {c:World}
theorem ck_dexists (v:Int):Ck Tryz.prog 54 [.int .i64 v] c (.bool (decide (v=4)||decide (v=5))):=by
 refine Ck.in Tryz.func54 ?_
 repeat' first|refine go ?_|refine vc (fun _=>?_) fun _=>?_|refine vg (fun _=>?_) fun _=>?_|refine vrb ?_
 all_goals grind
theorem ck_headRight (v:Int) (h:Hd):Ck Tryz.prog 73 [.int .i64 v,.agg #[.int .i64 h.kind,.int .u8 h.flags,.int .i64 h.head,.int .i64 h.rest]] c (.bool (headOk v h)):=by
 have c1:=ck_dexists (c:=c) v;refine Ck.in Tryz.func73 ?_
 repeat' first|refine go ?_|refine vA fun b=>?_|refine vc (fun _=>?_) fun _=>?_|refine vg (fun _=>?_) fun _=>?_|refine vrb ?_
 all_goals grind [headOk]
end
abbrev pt (b:Nat):Value:=.pointer (some ⟨b,0,none⟩)
abbrev byR (a:Option Addr) (cp:Nat) (l:List UInt8):Rwv:=⟨5,1,.slice a l.length cp,l.length,B8 l⟩
structure FoX where
 a:Option Addr
 cp:Nat
 l:List UInt8
abbrev By (f:Nat) (args:List Value) (c:World) (x:List UInt8):Prop:=Tn Tryz.prog f args c (fun y:Option Addr × Nat=>.slice y.1 x.length y.2) (fun y c'=>Own9 c' 5 y.1 x.length y.2 (B8 x))
theorem OwnB.tn {f : Nat} {fn : Func} {args : List Value} {c : World} {x : List UInt8} (hf : Tryz.prog.funcs[f]? = some fn) (h : ∀ w, Le c w → Calls Tryz.prog f args.toArray w (OwnB w x)) (hb : fn.body.isNone = false := by rfl) (hg : (fn.name == "runtime.NumGoroutine") = false := by kernel_rfl) : By f args c x := Tn.own hf h hb hg
section
variable {c:World} {v:Int}
end
section
variable {c:World} {v:Int}
end
end Go.Proofs.YtofjhopecfmbcaaGreatDoor
