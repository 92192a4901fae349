import Derived.Test.YtnehnjklgglliaaGreatDoorYFG
import Derived.Test.YtnehnjklgglliaaGreatDoorYF8
import Derived.Test.YtnehnjklgglliaaGreatDoorYF3
import Derived.Test.YtnehnjklgglliaaGreatDoorYFV
import Derived.Test.YtnehnjklgglliaaGreatDoorYFB
import Derived.Test.YtnehnjklgglliaaGreatDoorYFI
namespace Go.Proofs.YtnehnjklgglliaaGreatDoor
open Go.RowKit
set_option linter.unusedVariables false
set_option linter.unusedSimpArgs false
set_option maxRecDepth 100000
def by1 (n:Nat):List UInt8:=[jg (n:Int)]
def j95 (b:Bool) (n:Nat):Nat:=if b then n else 0
def jEf:ByteArray:=⟨#[77,81,84,84]⟩
def z6 (p:Pk):Nat:=if p.kind=3 then j95 p.retain 1+2*p.qos+j95 p.dup 8 else if p.kind=6∨p.kind=8∨p.kind=10 then 2 else 0
def jPj (v:Int) (L:List Pr):List UInt8:=if v=4 then [] else jEm [] L
def jKt (k:Int):List Fi→List UInt8
 | []=>[]
 | f :: l=>j3m f.text++(if k=8 then by1 f.opt else [])++jKt k l
structure Ri (v:Int) (p:Pk):Prop where
 hv:v=4∨v=5
 k1:1≤p.kind
 k2:p.kind≤15
 bare:p=jj p
 qos:p.qos≤2
 wq:p.willQoS≤2
 client:p.client.size≤65535
 user:p.user.size≤65535
 pass:p.pass.size≤65535
 willTopic:p.willTopic.size≤65535
 willLoad:p.willLoad.size≤65535
 topic:p.topic.size≤65535
 filt:∀ f∈p.filters,f.text.size≤65535
 nf:p.filters.length≤1024
 nc:p.codes.length≤1024
 rest:xC v p≤268435455
section
variable {w0 w W W':World} {f:Nat} {v:Int} {k k':Nat} {l l' m:List UInt8} {M:List Bk}
theorem vQ {w:World} {b:Nat} {t t':TypeId} {c c':Array Value} (h:Blk w b t c) (h':Blk w b t' c'):t=t':=by
 unfold Blk at h h';rw[h]at h';injection h' with h';injection h' with _ h' _
end
section
variable {P:Program} {ops:Array Oper} {Q:Exit→Act→World→Prop} {a:Act} {w w0:World} {rest:List Oper} {N n:Nat} {L:List (Nat × Value)} {v:Value} {ty:TypeId} {ps:String} {af:Array Edge} {op:Op} {gd:Nat × Bool} {G X Y:Bool} {ρ:Operand→Value} {o:Oper}
theorem jK {x:Operand} {b off:Nat} (ho:o.op=.nilCheck x) (hx:ρ x=.pointer (some ⟨b,off,none⟩)):(execOp ρ o).run P w=.ok (.value (.pointer (some ⟨b,off,none⟩))) w:=by simp[execOp,ho,hx]
variable {md:Region.Mode} {S:World→Prop} {fuel:Nat} {listed:Array Bool} {i:Nat}
theorem jDb {fn:Func} (h:fn.results=#[]):(results fn a.tmps).run P w=.ok (.tuple #[]) w:=results_none h _ _ _
theorem zr0 {fn:Func} {R:Ending→World→Prop} (hR:R (.returned (.tuple #[])) w) (F:Fr a N L:=by assumption) (h:fn.results=#[]:=by rfl):bodyPost P fn R Exit.ret a w:=bodyPost_ret (jDb h) F.d hR
theorem zn0 {fn:Func} {R:Ending→World→Prop} (hR:R (.returned (.tuple #[])) w) (F:Fr a N L:=by assumption) (h:fn.results=#[]:=by rfl):bodyPost P fn R Exit.normal a w:=bodyPost_end (jDb h) F.d hR
end
theorem jNm (n:Int) (w:World) (h:0≤n) (h2:n≤255):(convert 3 5 (.int .i64 n)).run Tryz.prog w=.ok (.int .u8 (n.toNat:Int)) w:=by
 obtain ⟨m,rfl⟩:∃ m:Nat,n=(m:Int):=⟨n.toNat,by omega⟩
 have u:=Tryz.underlying3;have u2:=Tryz.underlying5;have e:IntKind.u8.wrap ((m:Int))=(m:Int):=vf (by omega) (by omega)
 go_simp
 try exact e
theorem jCp (b:Bool) (n:Nat):j95 b n≤n:=by unfold j95;split<;>omega
end Go.Proofs.YtnehnjklgglliaaGreatDoor
