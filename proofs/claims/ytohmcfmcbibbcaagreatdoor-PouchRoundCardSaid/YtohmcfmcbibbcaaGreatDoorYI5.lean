import Derived.Test.YtohmcfmcbibbcaaGreatDoorYH9
import Derived.Test.YtohmcfmcbibbcaaGreatDoorYI1
import Derived.Test.YtohmcfmcbibbcaaGreatDoorYF1
import Derived.Test.YtohmcfmcbibbcaaGreatDoorYH4
import Derived.Test.YtohmcfmcbibbcaaGreatDoorYI2
import Derived.Test.YtohmcfmcbibbcaaGreatDoorYFS
namespace Go.Proofs.YtohmcfmcbibbcaaGreatDoor
open Go.RowKit
set_option linter.unusedVariables false
set_option linter.unusedSimpArgs false
set_option maxRecDepth 100000
structure Lm where
 rc:Int
 al:Int
 sz:Int
 q:Int
 rt:Bool
 wi:Bool
 nu:Bool
 sh:Bool
deriving DecidableEq
abbrev Lm.li (l:Lm):List Value:=[.int .u16 l.rc,.int .u16 l.al,.int .i64 l.sz,.int .u8 l.q,.bool l.rt,.bool l.wi,.bool l.nu,.bool l.sh]
def Lm.std:Lm:=⟨65535,0,268435460,2,true,true,true,true⟩
def numL (L:List Pr) (i o:Nat):Nat:=((getL L i).map Pr.n).getD o
def w16 (n:Nat):Int:=(n:Int) % 65536
def w8 (n:Nat):Int:=(n:Int) % 256
def wI (n:Nat):Int:=(n:Int)
def stepL (l:Lm) (x:Pr):Lm :=
 if x.id=33 then { l with rc:=w16 x.n } else if x.id=34 then { l with al:=w16 x.n } else if x.id=39 then { l with sz:=wI x.n } else
 if x.id=36 then { l with q:=w8 x.n } else if x.id=37 then { l with rt:=x.n != 0 } else if x.id=40 then { l with wi:=x.n != 0 } else
 if x.id=41 then { l with nu:=x.n != 0 } else if x.id=42 then { l with sh:=x.n != 0 } else l
def ofP (v:Int) (p:Pk):Lm:=if v=5∧(p.kind=1∨p.kind=2)∧rightP v p=true then p.props.foldl stepL .std else .std
def three (L:List Pr):Lm:=⟨w16 (numL L 33 65535),w16 (numL L 34 0),wI (numL L 39 268435460),2,true,true,true,true⟩
set_option maxHeartbeats 8000000
abbrev rrB (r:Nat) (B:ByteArray) (at_:Nat) (e:Int):Bl:=⟨r,171,[.string B,.int .i64 at_,.int .i64 e]⟩
structure RrK (B:ByteArray) (at_:Nat) (l:List UInt8) (e:Int):Prop where
 le:at_≤B.size
 sm:B.size≤140737000000000
 ok:e=0→l=B.data.toList.drop at_
 bad:e≠0→l=[]
theorem Tr.rr {f : Nat} {fn : Func} {args : List Value} {c : World} {r at_ : Nat} {B : ByteArray} {l l' : List UInt8} {e e' : Int} {v : Value} (hf : Tryz.prog.funcs[f]? = some fn) (h : RrK B at_ l e) (old : ∀ w, RefR w r B l e → Calls Tryz.prog f args.toArray w fun ed w' => ed = .returned v ∧ RAfter w w' r B l' e') (hb : fn.body.isNone = false := by rfl) (hg : (fn.name == "runtime.NumGoroutine") = false := by kernel_rfl) :
  Tr Tryz.prog f args c [rrB r B at_ e] [] (fun _=>v) (fun _=>c) (fun x:Nat=>[rrB r B x e']) (fun _=>[]) (fun x=>RrK B x l' e') :=
 ⟨fun args w=>gx_fn hf hg hb args w,fun κ w S=>(old w ⟨at_,S.m _ (List.mem_singleton_self _),h.le,h.sm,h.ok,h.bad⟩).mono fun ed w' ⟨h1,h2⟩=>by
  obtain ⟨x,hB,h3,h4,h5,h6⟩:=h2.rdr;exact ⟨x,h1,⟨h3,h4,h5,h6⟩,S.sub.setl (A:=[]) (M1:=[]) h2.kept hB⟩⟩
section
variable {c:World} {r at_:Nat} {B:ByteArray} {l:List UInt8} {e:Int}
end
structure Pn (n:World) (p:Pk) (s:Sl):Prop where
 w:Nw n s.wa (PC p.willProps)
 f:Nw n s.fa (FC p.filters)
 c:Nw n s.ca (B8 p.codes)
 p:Nw n s.pa (PC p.props)
theorem Pn.le {n m:World} {p:Pk} {s:Sl} (h:Pn m p s) (k:Le n m):Pn n p s:=⟨h.w.le k,h.f.le k,h.c.le k,h.p.le k⟩
theorem Pn.zk (c:World) (k:Int) (s:Sl):Pn c (zk k) s:=⟨.nil _ _,.nil _ _,.nil _ _,.nil _ _⟩
section
variable {c:World} {t r at_:Nat} {v:Int} {B:ByteArray} {s:Ts}
structure RkX where
 i:Nat
 b:Option Addr
 bp:Nat
 c:World
structure DpX where
 i:Nat
 sl:Sl
 c:World
end
end Go.Proofs.YtohmcfmcbibbcaaGreatDoor
