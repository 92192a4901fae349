import Derived.Test.YtohmcfmcbibbcaaGreatDoorYF3
import Derived.Deep.Slices
import Derived.ChangeArms
import Derived.ChangeSame
namespace Go.Proofs.YtohmcfmcbibbcaaGreatDoor
open Go.RowKit
set_option linter.unusedVariables false
set_option linter.unusedSimpArgs false
set_option maxRecDepth 100000
structure Fi where
 text:ByteArray
 opt:Nat
deriving DecidableEq
def Fi.cells (p:Fi):List Value:=[.string p.text,.int .u8 p.opt]
def Fi.val (p:Fi):Value:=.agg #[.string p.text,.int .u8 p.opt]
def FC (L:List Fi):List Value:=L.flatMap Fi.cells
@[simp] theorem FC_nil:FC []=[]:=rfl
theorem FC_cons (p:Fi) (L:List Fi):FC (p :: L)=p.cells++FC L:=rfl
theorem FC_append (L M:List Fi):FC (L++M)=FC L++FC M:=by simp[FC]
theorem FC_one (p:Fi):FC [p]=p.cells:=by simp[FC]
theorem FC_length (L:List Fi):(FC L).length=L.length * 2:=by
 induction L with
 | nil=>rfl
 | cons p L ih=>rw[FC_cons,List.length_append,ih];simp[Fi.cells];omega
theorem FC_get (L:List Fi):∀ (k:Nat) (h:k < L.length),(FC L)[k * 2]?=some (.string L[k].text)∧(FC L)[k * 2+1]?=some (.int .u8 L[k].opt):=by
 induction L with
 | nil=>intro k h;simp at h
 | cons p L ih =>
  intro k h;cases k with
  | zero=>simp[FC_cons,Fi.cells]
  | succ k =>
   have h1:=ih k (by simpa using h);have e:(p.cells).length=2:=rfl;rw[FC_cons];refine ⟨?_,?_⟩
   ·rw[List.getElem?_append_right (by rw[e];omega),e,show (k+1) * 2 - 2=k * 2 by omega];simpa using h1.1
   ·rw[List.getElem?_append_right (by rw[e];omega),e,show (k+1) * 2+1 - 2=k * 2+1 by omega];simpa using h1.2
theorem Row.filt {w:World} {a:Option Addr} {L:List Fi} (h:Row w a (FC L)) {k:Nat} (hk:k < L.length) :
  ∃ b off,a=some ⟨b,off,none⟩∧b < w.heap.size∧w.cell? ⟨b,off+k * 2,none⟩=some (.string L[k].text)∧w.cell? ⟨b,off+k * 2+1,none⟩=some (.int .u8 L[k].opt):=by
 obtain ⟨h0,h1⟩:=FC_get L k hk;rcases h with h|⟨b,off,ha,hb,hc⟩
 ·have:=FC_length L;rw[h]at this;simp at this;omega
 ·refine ⟨b,off,ha,hb,hc _ _ h0,?_⟩
  rw[Nat.add_assoc];exact hc _ _ h1
structure Pk where
 kind:Int
 dup:Bool
 retain:Bool
 qos:Nat
 id:Nat
 clean:Bool
 keep:Nat
 client:ByteArray
 hasWill:Bool
 hasUser:Bool
 hasPass:Bool
 willQoS:Nat
 willRetain:Bool
 willProps:List Pr
 willTopic:ByteArray
 willLoad:ByteArray
 user:ByteArray
 pass:ByteArray
 present:Bool
 code:Nat
 topic:ByteArray
 load:ByteArray
 filters:List Fi
 codes:List UInt8
 props:List Pr
deriving DecidableEq
structure Sl where
 wa:Option Addr
 wc:Nat
 fa:Option Addr
 fc:Nat
 ca:Option Addr
 cc:Nat
 pa:Option Addr
 pc:Nat
def Pk.cells (p:Pk) (s:Sl):Array Value:=#[.int .i64 p.kind,.bool p.dup,.bool p.retain,.int .u8 p.qos,.int .u16 p.id,.bool p.clean,.int .u16 p.keep,.string p.client,.bool p.hasWill,.bool p.hasUser,.bool p.hasPass,.int .u8 p.willQoS,.bool p.willRetain,
 .slice s.wa p.willProps.length s.wc,.string p.willTopic,.string p.willLoad,.string p.user,.string p.pass,.bool p.present,.int .u8 p.code,.string p.topic,.string p.load,.slice s.fa p.filters.length s.fc,.slice s.ca p.codes.length s.cc,.slice s.pa p.props.length s.pc]
def Pk.val (p:Pk) (s:Sl):Value:=.agg (p.cells s)
structure Pk.At (p:Pk) (s:Sl) (w:World):Prop where
 hw:Row w s.wa (PC p.willProps)
 hf:Row w s.fa (FC p.filters)
 hc:Row w s.ca (B8 p.codes)
 hp:Row w s.pa (PC p.props)
structure Pk.few (p:Pk):Prop where
 hw:p.willProps.length≤100000
 hf:p.filters.length≤100000
 hc:p.codes.length≤100000
 hp:p.props.length≤100000
theorem Pk.At.kept {p:Pk} {s:Sl} {w w':World} (h:p.At s w) (hk:Kept No w w'):p.At s w':=⟨h.hw.keptNo hk,h.hf.keptNo hk,h.hc.keptNo hk,h.hp.keptNo hk⟩
open Go.RowKit Go.ChangeShapes Go.WideShapes Go.Deep
section
variable {H:Type} {enc:TypeId × Value→H} {w:World} {base:Nat} {spare:Nat→Bool} {held:Bool}
theorem field_at {P:Program} {e:TypeId} {fs:Array Field} {n:Nat} {cs:List Value} {x:DataW H × List MemPlace} (he:P.underlying e=some (.struct fs)) (h:DataW.trod enc P w base spare held n e cs=some x)
  {j:Nat} {f:Field} (hj:fs[j]?=some f) (ho:f.offset=j) (hc:P.cellsOf f.type=1) (hjl:j < cs.length):∃ k y,DataW.trod enc P w base spare held k f.type [cs[j]]=some y:=by
 obtain ⟨xs,k,_,_,_,hxl,hf⟩:=DataW.trod_struct he h;have h1:=hf j f hj;rw[ho,hc]at h1
 have e1:(cs.drop j).take 1=[cs[j]]:=by
  rw[List.drop_eq_getElem_cons hjl]
  rfl
 rw[e1]at h1;have hjx:j < xs.length:=by rw[hxl];exact (Array.getElem?_eq_some_iff.1 hj).1
 rw[List.getElem?_eq_getElem hjx]at h1;exact ⟨_,_,h1⟩
structure IsProps (w:World) (a:Option Addr) (len cap:Nat) (L:List Pr):Prop where
 hlen:L.length=len
 hrow:Row w a (PC L)
 hle:len≤cap
 hcap:cap≤maxLen
 hnil:a=none→len=0∧cap=0
 hwf:∀ p∈L,p.id < 256∧p.n < 4294967296∧p.a.size≤maxLen∧p.b.size≤maxLen
structure IsFilts (w:World) (a:Option Addr) (len cap:Nat) (L:List Fi):Prop where
 hlen:L.length=len
 hrow:Row w a (FC L)
 hle:len≤cap
 hcap:cap≤maxLen
 hnil:a=none→len=0∧cap=0
 hwf:∀ p∈L,p.text.size≤maxLen∧p.opt < 256
theorem rows_of {α:Type} (cells:α→List Value) (s:Nat) (hs:∀ p,(cells p).length=s) (Pw:α→Prop) (ad:Addr) (len:Nat) (each:∀ i,i < len→∃ p,(∀ j u,(cells p)[j]?=some u→w.cell? (ad.add (i * s+j))=some u)∧Pw p) :
  ∃ L:List α,L.length=len∧(∀ j u,(L.flatMap cells)[j]?=some u→w.cell? (ad.add j)=some u)∧∀ p∈L,Pw p:=by
 have hfl:∀ L:List α,(L.flatMap cells).length=L.length * s:=by
  intro L
  induction L with
  | nil=>simp
  | cons p L ih=>rw[List.flatMap_cons,List.length_append,ih,hs,List.length_cons,Nat.add_mul,Nat.one_mul,Nat.add_comm]
 have go:∀ k,k≤len→∃ L:List α,L.length=k∧(∀ j u,(L.flatMap cells)[j]?=some u→w.cell? (ad.add j)=some u)∧∀ p∈L,Pw p:=by
  intro k
  induction k with
  | zero=>intro _;exact ⟨[],rfl,by simp,by simp⟩
  | succ k ih =>
   intro hk;obtain ⟨L,hL,hc,hw⟩:=ih (by omega);obtain ⟨p,hp,hpw⟩:=each k (by omega);refine ⟨L++[p],by simp[hL],fun j u hu=>?_,fun q hq=>?_⟩
   ·rw[List.flatMap_append]at hu
    by_cases hj:j < (L.flatMap cells).length
    ·rw[List.getElem?_append_left hj]at hu
     exact hc j u hu
    ·rw[List.getElem?_append_right (by omega)]at hu
     have hz:=hfl L;rw[hL]at hz;rw[hz]at hu hj
     have:=hp (j - k * s) u (by simpa using hu)
     rwa [show k * s+(j - k * s)=j by omega]at this
   ·rcases List.mem_append.1 hq with h|h
    ·exact hw q h
    ·rw[List.mem_singleton.1 h];exact hpw
 exact go len (Nat.le_refl _)
set_option maxHeartbeats 1000000 in
theorem open_props {cs:List Value} {x:DataW H × List MemPlace} {fuel:Nat} (h:DataW.trod enc Tryz.prog w base spare held fuel 36 cs=some x) :
  ∃ a len cap L,cs=[.slice a len cap]∧IsProps w a len cap L:=by
 rcases open_slice Tryz.underlying36 h with ⟨rfl,_⟩|⟨ad,len,cap,m,n,D,Pl,rfl,hb,hl,hm,hmm,rfl,hx⟩
 ·exact ⟨none,0,0,[],rfl,rfl,.nil _ _,Nat.le_refl _,by simp,fun _=>⟨rfl,rfl⟩,by simp⟩
 have hlm:len≤m:=by rw[hmm];split<;>omega
 have ce:Tryz.prog.cellsOf 123=4:=by kernel_rfl
 have each:∀ i,i < m→∃ p:Pr,(∀ j u,p.cells[j]?=some u→w.cell? (ad.add (i * 4+j))=some u)∧p.id < 256∧p.n < 4294967296∧p.a.size≤maxLen∧p.b.size≤maxLen:=by
  intro i hi;obtain ⟨cs',h1,h2⟩:=hx i hi;rw[ce]at h1;obtain ⟨_,hlen,hcell⟩:=World.cells?_some h1;obtain ⟨k0,y0,t0⟩:=field_at (j:=0) Tryz.underlying123 h2 rfl rfl (by kernel_rfl) (by omega);obtain ⟨k1,y1,t1⟩:=field_at (j:=1) Tryz.underlying123 h2 rfl rfl (by kernel_rfl) (by omega);obtain ⟨k2,y2,t2⟩:=field_at (j:=2) Tryz.underlying123 h2 rfl rfl (by kernel_rfl) (by omega);obtain ⟨k3,y3,t3⟩:=field_at (j:=3) Tryz.underlying123 h2 rfl rfl (by kernel_rfl) (by omega);obtain ⟨x0,e0,_,w0⟩:=DataW.trod_int Tryz.underlying5 t0;obtain ⟨x1,e1,_,w1⟩:=DataW.trod_int Tryz.underlying82 t1;obtain ⟨x2,e2,_,w2⟩:=DataW.trod_string Tryz.underlying9 t2;obtain ⟨x3,e3,_,w3⟩:=DataW.trod_string Tryz.underlying9 t3;have b0:=bounds_u8 w0;have b1:=bounds_u32 w1;obtain ⟨n0,rfl⟩:=Int.eq_ofNat_of_zero_le b0.1;obtain ⟨n1,rfl⟩:=Int.eq_ofNat_of_zero_le b1.1;simp at e0 e1 e2 e3;refine ⟨⟨n0,n1,x2,x3⟩,fun j u hu=>?_,(by have:=b0.2;omega:n0 < 256),(by have:=b1.2;omega:n1 < 4294967296),w2,w3⟩;have hj:j < 4:=(List.getElem?_eq_some_iff.1 hu).1;have hc:=hcell j hj;rw[← Go.Deep.add_add,hc]
  match j,hj with
  | 0,_=>rw[List.getElem?_eq_getElem (by omega),e0];exact hu
  | 1,_=>rw[List.getElem?_eq_getElem (by omega),e1];exact hu
  | 2,_=>rw[List.getElem?_eq_getElem (by omega),e2];exact hu
  | 3,_=>rw[List.getElem?_eq_getElem (by omega),e3];exact hu
 obtain ⟨L,hL,hc,hw⟩:=rows_of Pr.cells 4 (fun _=>rfl) (fun p=>p.id < 256∧p.n < 4294967296∧p.a.size≤maxLen∧p.b.size≤maxLen) ad len (fun i hi=>each i (by omega));exact ⟨some ad,len,cap,L,rfl,hL,.of_cells hc,hl,hm,(fun h=>by cases h),hw⟩
set_option maxHeartbeats 1000000 in
theorem open_filts {cs:List Value} {x:DataW H × List MemPlace} {fuel:Nat} (h:DataW.trod enc Tryz.prog w base spare held fuel 37 cs=some x) :
  ∃ a len cap L,cs=[.slice a len cap]∧IsFilts w a len cap L:=by
 rcases open_slice Tryz.underlying37 h with ⟨rfl,_⟩|⟨ad,len,cap,m,n,D,Pl,rfl,hb,hl,hm,hmm,rfl,hx⟩
 ·exact ⟨none,0,0,[],rfl,rfl,.nil _ _,Nat.le_refl _,by simp,fun _=>⟨rfl,rfl⟩,by simp⟩
 have hlm:len≤m:=by rw[hmm];split<;>omega
 have ce:Tryz.prog.cellsOf 79=2:=by kernel_rfl
 have each:∀ i,i < m→∃ p:Fi,(∀ j u,p.cells[j]?=some u→w.cell? (ad.add (i * 2+j))=some u)∧p.text.size≤maxLen∧p.opt < 256:=by
  intro i hi;obtain ⟨cs',h1,h2⟩:=hx i hi;rw[ce]at h1;obtain ⟨_,hlen,hcell⟩:=World.cells?_some h1;obtain ⟨k0,y0,t0⟩:=field_at (j:=0) Tryz.underlying79 h2 rfl rfl (by kernel_rfl) (by omega);obtain ⟨k1,y1,t1⟩:=field_at (j:=1) Tryz.underlying79 h2 rfl rfl (by kernel_rfl) (by omega);obtain ⟨x0,e0,_,w0⟩:=DataW.trod_string Tryz.underlying9 t0;obtain ⟨x1,e1,_,w1⟩:=DataW.trod_int Tryz.underlying5 t1;have b1:=bounds_u8 w1;obtain ⟨n1,rfl⟩:=Int.eq_ofNat_of_zero_le b1.1;simp at e0 e1;refine ⟨⟨x0,n1⟩,fun j u hu=>?_,w0,(by have:=b1.2;omega:n1 < 256)⟩;have hj:j < 2:=(List.getElem?_eq_some_iff.1 hu).1;have hc:=hcell j hj;rw[← Go.Deep.add_add,hc]
  match j,hj with
  | 0,_=>rw[List.getElem?_eq_getElem (by omega),e0];exact hu
  | 1,_=>rw[List.getElem?_eq_getElem (by omega),e1];exact hu
 obtain ⟨L,hL,hc,hw⟩:=rows_of Fi.cells 2 (fun _=>rfl) (fun p=>p.text.size≤maxLen∧p.opt < 256) ad len (fun i hi=>each i (by omega));exact ⟨some ad,len,cap,L,rfl,hL,.of_cells hc,hl,hm,(fun h=>by cases h),hw⟩
end
end Go.Proofs.YtohmcfmcbibbcaaGreatDoor
