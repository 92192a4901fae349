import Derived.Test.YtofjhopecfmbcaaGreatDoorYF3
namespace Go.Proofs.YtofjhopecfmbcaaGreatDoor
open Go.RowKit
set_option linter.unusedVariables false
set_option linter.unusedSimpArgs false
set_option maxRecDepth 100000
structure Fi where
 text:ByteArray
 opt:Nat
deriving DecidableEq
def Fi.cells (p:Fi):List Value:=[.string p.text,.int .u8 p.opt]
def Fi.val (p:Fi):Value:=.agg #[.string p.text,.int .u8 p.opt]
def FC (L:List Fi):List Value:=L.flatMap Fi.cells
@[simp] theorem FC_nil:FC []=[]:=rfl
theorem FC_cons (p:Fi) (L:List Fi):FC (p :: L)=p.cells++FC L:=rfl
theorem FC_length (L:List Fi):(FC L).length=L.length * 2:=by
 induction L with
 | nil=>rfl
 | cons p L ih=>rw[FC_cons,List.length_append,ih];simp[Fi.cells];omega
theorem FC_get (L:List Fi):∀ (k:Nat) (h:k < L.length),(FC L)[k * 2]?=some (.string L[k].text)∧(FC L)[k * 2+1]?=some (.int .u8 L[k].opt):=by
 induction L with
 | nil=>intro k h;simp at h
 | cons p L ih =>
  intro k h;cases k with
  | zero=>simp[FC_cons,Fi.cells]
  | succ k =>
   have h1:=ih k (by simpa using h);have e:(p.cells).length=2:=rfl;rw[FC_cons];refine ⟨?_,?_⟩
   ·rw[List.getElem?_append_right (by rw[e];omega),e,show (k+1) * 2 - 2=k * 2 by omega];simpa using h1.1
   ·rw[List.getElem?_append_right (by rw[e];omega),e,show (k+1) * 2+1 - 2=k * 2+1 by omega];simpa using h1.2
theorem Row.filt {w:World} {a:Option Addr} {L:List Fi} (h:Row w a (FC L)) {k:Nat} (hk:k < L.length) :
  ∃ b off,a=some ⟨b,off,none⟩∧b < w.heap.size∧w.cell? ⟨b,off+k * 2,none⟩=some (.string L[k].text)∧w.cell? ⟨b,off+k * 2+1,none⟩=some (.int .u8 L[k].opt):=by
 obtain ⟨h0,h1⟩:=FC_get L k hk;rcases h with h|⟨b,off,ha,hb,hc⟩
 ·have:=FC_length L;rw[h]at this;simp at this;omega
 ·refine ⟨b,off,ha,hb,hc _ _ h0,?_⟩
  rw[Nat.add_assoc];exact hc _ _ h1
structure Pk where
 kind:Int
 dup:Bool
 retain:Bool
 qos:Nat
 id:Nat
 clean:Bool
 keep:Nat
 client:ByteArray
 hasWill:Bool
 hasUser:Bool
 hasPass:Bool
 willQoS:Nat
 willRetain:Bool
 willProps:List Pr
 willTopic:ByteArray
 willLoad:ByteArray
 user:ByteArray
 pass:ByteArray
 present:Bool
 code:Nat
 topic:ByteArray
 load:ByteArray
 filters:List Fi
 codes:List UInt8
 props:List Pr
deriving DecidableEq
structure Sl where
 wa:Option Addr
 wc:Nat
 fa:Option Addr
 fc:Nat
 ca:Option Addr
 cc:Nat
 pa:Option Addr
 pc:Nat
def Pk.cells (p:Pk) (s:Sl):Array Value:=#[.int .i64 p.kind,.bool p.dup,.bool p.retain,.int .u8 p.qos,.int .u16 p.id,.bool p.clean,.int .u16 p.keep,.string p.client,.bool p.hasWill,.bool p.hasUser,.bool p.hasPass,.int .u8 p.willQoS,.bool p.willRetain,
 .slice s.wa p.willProps.length s.wc,.string p.willTopic,.string p.willLoad,.string p.user,.string p.pass,.bool p.present,.int .u8 p.code,.string p.topic,.string p.load,.slice s.fa p.filters.length s.fc,.slice s.ca p.codes.length s.cc,.slice s.pa p.props.length s.pc]
def Pk.val (p:Pk) (s:Sl):Value:=.agg (p.cells s)
structure Pk.At (p:Pk) (s:Sl) (w:World):Prop where
 hw:Row w s.wa (PC p.willProps)
 hf:Row w s.fa (FC p.filters)
 hc:Row w s.ca (B8 p.codes)
 hp:Row w s.pa (PC p.props)
structure Pk.few (p:Pk):Prop where
 hw:p.willProps.length≤100000
 hf:p.filters.length≤100000
 hc:p.codes.length≤100000
 hp:p.props.length≤100000
theorem Pk.At.kept {p:Pk} {s:Sl} {w w':World} (h:p.At s w) (hk:Kept No w w'):p.At s w':=⟨h.hw.keptNo hk,h.hf.keptNo hk,h.hc.keptNo hk,h.hp.keptNo hk⟩
end Go.Proofs.YtofjhopecfmbcaaGreatDoor
