import Derived.Test.YtdeecgmihfakgaaGreatDoorBase
import Derived.Deep.RegionHeld3
import Derived.Laws.Tables
import Derived.Test.YtdeecgmihfakgaaGreatDoorYFC
import Derived.Test.YtdeecgmihfakgaaGreatDoorChecked
import Derived.Test.YtdeecgmihfakgaaGreatDoorYF9
import Derived.ChangeSlices
import Derived.OpenShut
import Derived.ShutString
namespace Go.Proofs.YtdeecgmihfakgaaGreatDoor
set_option maxHeartbeats 4000000
open Go.RowKit
set_option linter.unusedVariables false
set_option linter.unusedSimpArgs false
section
variable {P:Program} {ops:Array Oper} {Q:Exit→Act→World→Prop} {a:Act} {w:World} {rest:List Oper} {o:Oper} {N n:Nat} {ρ:Operand→Value}
theorem j44 (a b:ByteArray):a.toList=b.toList↔a=b:=by
 constructor
 ·intro h
  have e:a.data.toList=b.data.toList:=by rw[← ByteArray.toList_eq,← ByteArray.toList_eq];exact h
  exact ByteArray.ext (Array.toList_inj.1 e)
 ·intro h;rw[h]
theorem jOq {i:Nat} {v:Value} (h:a.tmps[i]?=some v):a.eval (.tmp i)=v:=by simp[Act.eval,Array.getD_eq_getD_getElem?,h]
theorem jA {v:Value}:a.eval (.const v)=v:=rfl
theorem jMr {v:Value} (z:a.tmps.size=N) (hn:n<N):(a.put (some n) v).tmps.size=N∧(a.put (some n) v).tmps[n]?=some v∧(∀ i,i≠n→(a.put (some n) v).tmps[i]?=a.tmps[i]?)∧(a.put (some n) v).defers=a.defers:=by
 refine ⟨by simp[Act.put,z],by simp[Act.put,z,hn],λi hi=>?_,rfl⟩;simp[Act.put,Array.getElem?_setIfInBounds,Ne.symm hi]
theorem j6n {y:Nat→Option Bool} (hg:o.guard=none):Region.wanted o y=true:=by simp[Region.wanted,hg]
theorem jKx {j t:Nat} {b want:Bool} (hg:o.guard=some (j,want)) (hj:(ops[j]?).bind (·.dst)=some t) (f:a.tmps[t]?=some (.bool b)):Region.wanted o (yielded ops a.tmps)=(b == want):=by
 simp[Region.wanted,hg,yielded,hj,f]
theorem jOs {j t:Nat} {want:Bool} (hg:o.guard=some (j,want)) (hj:(ops[j]?).bind (·.dst)=some t) (f:a.tmps[t]?=some undef):Region.wanted o (yielded ops a.tmps)=false:=by
 simp[Region.wanted,hg,yielded,hj,f,undef]
theorem qw {i:Nat} {u v:Value} (f:a.tmps[i]?=some u) (h:u=v):a.tmps[i]?=some v:=h▸f
theorem jOr {w':World} (hw:Region.wanted o (yielded ops a.tmps)=true) (hd:o.dst=none) (h:(execOp a.eval o).run P w=.ok .skip w') (k:wpList P ops Q rest a w'):wpList P ops Q (o :: rest) a w:=by
 unfold wpList;rw[if_pos hw];left;unfold Oper.wp;rw[h];show wpList P ops Q rest (a.put o.dst undef) w';rw[hd];exact k
section
variable {md:Region.Mode} {S:World→Prop} {fuel:Nat} {listed:Array Bool}
theorem jDd {i:Nat} (hi:ops[i]?=some o) (hr:Region.ready md ops listed=[i]) (hw:Region.wanted o (yielded ops a.tmps)=true)
  (h:o.wp P a w (λa' w'=>S w'∧wpAnyH P md ops Q S fuel (listed.setIfInBounds i true) a' w') Q):wpAnyH P md ops Q S (fuel+1) listed a w:=by
 refine wpAnyH_all hr (by simp) λj hj=>?_
 obtain rfl:=List.mem_singleton.1 hj;unfold wpOp;simp only[hi];rw[if_pos hw];exact .inl h
end
theorem ql {w:World} {x:Operand} {v:Value} (ho:o.op=.move x) (hx:ρ x=v):(execOp ρ o).run P w=.ok (.value v) w:=by simp[execOp,ho,hx]
theorem zU {w:World} {x:Operand} {v:Value} (ho:o.op=.assign x) (hx:ρ x=v):(execOp ρ o).run P w=.ok (.value v) w:=by simp[execOp,ho,hx]
theorem zB {w:World} {c x y:Operand} {v:Value} (ho:o.op=.pick c x y) (hc:ρ c=.bool true) (hx:ρ x=v):(execOp ρ o).run P w=.ok (.value v) w:=by simp[execOp,ho,hc,hx,asBool]
theorem jA9 {w:World} {c x y:Operand} {v:Value} (ho:o.op=.pick c x y) (hc:ρ c=.bool false) (hx:ρ y=v):(execOp ρ o).run P w=.ok (.value v) w:=by simp[execOp,ho,hc,hx,asBool]
theorem qM {s:Sem Value} {v:Value} {w w':World} (h:s.run P w=.ok v w'):(do pure (Next.value (← s)):Sem Next).run P w=.ok (.value v) w':=by
 simp[h,Result.andThen]
theorem jJj {s:Sem Unit} {w w':World} (h:s.run P w=.ok () w'):(do s;pure Next.skip:Sem Next).run P w=.ok .skip w':=by
 simp[h,Result.andThen]
theorem j9 {t:TypeId} {x:Operand} {p v:Value} {w:World} (ho:o.op=.load t x) (hx:ρ x=p) (h:(Instr.loadAt t p).run P w=.ok v w):(execOp ρ o).run P w=.ok (.value v) w:=by
 simp only[execOp,ho,hx];exact qM h
theorem jM {t:TypeId} {x y:Operand} {p v:Value} {w w':World} (ho:o.op=.store t x y) (hx:ρ x=p) (hy:ρ y=v) (h:(Instr.storeAt t p v).run P w=.ok () w'):(execOp ρ o).run P w=.ok .skip w':=by
 simp only[execOp,ho,hx,hy];exact jJj h
theorem vB {t:TypeId} {x:Operand} {p v:Value} {i:Nat} {w:World} (ho:o.op=.fieldAddr t x i) (hx:ρ x=p) (h:(Instr.fieldAt t p i).run P w=.ok v w):(execOp ρ o).run P w=.ok (.value v) w:=by
 simp only[execOp,ho,hx];exact qM h
theorem jD {op:BinOp} {t u:TypeId} {x y:Operand} {p q v:Value} {w:World} (ho:o.op=.binOp op t x y u) (hx:ρ x=p) (hy:ρ y=q) (h:(do eqGuard op t x y p q;binOp op t p q:Sem Value).run P w=.ok v w):(execOp ρ o).run P w=.ok (.value v) w:=by
 simp only[execOp,ho,hx,hy];exact qM h
theorem jNo {op:UnOp} {t:TypeId} {x:Operand} {p v:Value} {w:World} (ho:o.op=.unOp op t x) (hx:ρ x=p) (h:(Op.unary op p).run P w=.ok v w):(execOp ρ o).run P w=.ok (.value v) w:=by
 simp only[execOp,ho,hx];exact qM h
theorem qJ {s t:TypeId} {x:Operand} {p v:Value} {w w':World} (ho:o.op=.convert s t x) (hx:ρ x=p) (h:(convert s t p).run P w=.ok v w'):(execOp ρ o).run P w=.ok (.value v) w':=by
 simp only[execOp,ho,hx];exact qM h
theorem qB {t:TypeId} {x y:Operand} {p q v:Value} {w:World} (ho:o.op=.indexAddr t x y) (hx:ρ x=p) (hy:ρ y=q) (h:(Instr.indexAt t p q).run P w=.ok v w):(execOp ρ o).run P w=.ok (.value v) w:=by
 simp only[execOp,ho,hx,hy];exact qM h
theorem j3e {w:World} {x:Operand} {l:Array Value} {v:Value} {i:Nat} (ho:o.op=.extract x i) (hx:ρ x=.tuple l) (hv:l[i]?=some v):(execOp ρ o).run P w=.ok (.value v) w:=by
 simp[execOp,ho,hx,Instr.extract,hv]
theorem jy {t:TypeId} {v:Value} {w w':World} (ho:o.op=.alloc t) (h:(Instr.alloc t true (.tuple #[])).run P w=.ok v w'):(execOp ρ o).run P w=.ok (.value v) w':=by
 simp only[execOp,ho];exact qM h
theorem qO {t:TypeId} {x:Operand} {p v:Value} {w w':World} (ho:o.op=.box t x) (hx:ρ x=p) (h:(Instr.box t p).run P w=.ok v w'):(execOp ρ o).run P w=.ok (.value v) w':=by
 simp only[execOp,ho,hx];exact qM h
theorem j6d {w:World} {t:TypeId} {x:Operand} {b:Bool} (ho:o.op=.unOp .not t x) (hx:ρ x=.bool b):(execOp ρ o).run P w=.ok (.value (.bool !b)) w:=by
 refine jNo ho hx ?_;simp[Op.unary]
theorem j18 {t:TypeId} {x:Operand} {lo hi mx:Option Operand} {p v:Value} {l h m:Option Value} {w:World} (ho:o.op=.slice t x lo hi mx) (hx:ρ x=p) (hl:lo.map ρ=l) (hh:hi.map ρ=h) (hm:mx.map ρ=m) (hr:(Instr.sliceAt t p l h m).run P w=.ok v w):(execOp ρ o).run P w=.ok (.value v) w:=by
 simp only[execOp,ho,hx,hl,hh,hm];exact qM hr
theorem j90 {t:TypeId} {x y:Operand} {p q v:Value} {w w':World} (ho:o.op=.makeSlice t x y) (hx:ρ x=p) (hy:ρ y=q) (h:(Instr.makeSlice t p q).run P w=.ok v w'):(execOp ρ o).run P w=.ok (.value v) w':=by
 simp only[execOp,ho,hx,hy];exact qM h
theorem q6 {w:World} {t:TypeId} {l:List (Nat × Operand)} {ps:List (Nat × Value)} {c:Array Value} (ho:o.op=.build t l.toArray) (hl:(l.map λx=>(x.1,ρ x.2))=ps) (h:P.built t ps=some c):(execOp ρ o).run P w=.ok (.value (.agg c)) w:=by
 simp only[execOp,ho];refine qM (run_build w _ _ _ ?_);simp only[List.map_toArray];rw[← h,← hl]
theorem qP {t:TypeId} (v:Value) (w:World):(Instr.box t v).run P w=.ok (.pointer (some ⟨w.heap.size,0,none⟩)) (w.alloc (.cells v.cells t)):=by rfl
theorem jt {T:TypeId} {b i:Nat} {v:Value} {w:World} (u:(isAgg T).run P w=.ok false w) (h:w.cell? ⟨b,i,none⟩=some v):(Instr.loadAt T (.pointer (some ⟨b,i,none⟩))).run P w=.ok v w:=by
 have e:(Instr.loadAt T (.pointer (some ⟨b,i,none⟩))).run P w=(loadVar T ⟨b,i,none⟩).run P w:=by rfl
 rw[e];unfold loadVar;simp only[Sem.run_bind,u,Result.andThen];simp[go_sem,h]
theorem jI {T k:Nat} {b:Nat} {w:World} (c:Array Value) (hc:c.size=k) (e1:(isAgg T).run P w=.ok true w) (e2:(Go.sizeOf T).run P w=.ok k w) (h:∀ i,w.cell? ⟨b,i,none⟩=c[i]?) :
  (Instr.loadAt T (.pointer (some ⟨b,0,none⟩))).run P w=.ok (.agg c) w:=by
 have e3:=run_loadCells (P:=P) (w:=w) ⟨b,0,none⟩ k (λj=>c.getD j undef) (λj hj=>by
  have e:(⟨b,0,none⟩:Addr).add j=⟨b,j,none⟩:=by simp[Addr.add];intro h;exact h.symm
  rw[e,h j];simp[Array.getD_eq_getD_getElem?,hc,hj])
 have e4:((List.range k).map λj=>c.getD j undef).toArray=c:=by
  apply Array.ext
  ·simp[hc]
  ·intro i h1 h2
   simp[Array.getD_eq_getD_getElem?,h2]
 rw[e4]at e3;have e6:loadCells (⟨b,0,none⟩:Addr) k=loadCellsFrom ⟨b,0,none⟩ 0 k #[]:=rfl;rw[e6]at e3;simp[Instr.loadAt,go_sem,e1,e2,e3]
theorem jBy {T t b i:Nat} {c c':Array Value} {v:Value} (w:World) (hB:Blk w b t c) (hs:(Go.sizeOf T).run P w=.ok 1 w) (h1:v.oneCell'=true) (hi:i<c.size) (e:c.setIfInBounds i v=c') :
  ∃ w',(Instr.storeAt T (.pointer (some ⟨b,i,none⟩)) v).run P w=.ok () w'∧Blk w' b t c'∧Kept (One b) w w':=by
 refine ⟨w.setCell ⟨b,i,none⟩ v,?_,e▸hB.set_ i v,Kept.setCell (S:=One b) (p:=⟨b,i,none⟩) (Kept.refl _ w) (.inr rfl) v⟩;have e5:(Instr.storeAt T (.pointer (some ⟨b,i,none⟩)) v).run P w=(storeVar T ⟨b,i,none⟩ v).run P w:=by rfl
 have hc:w.cell? ⟨b,i,none⟩=some c[i]:=by rw[hB.cell i];simp[hi]
 have hf:=hB.frozen i;have hcl:v.cells=#[v]:=by cases v<;>first|rfl|(simp[Value.oneCell']at h1)
 have e0:(⟨b,i,none⟩:Addr).add 0=⟨b,i,none⟩:=rfl;have e6:=run_store P w ⟨b,i,none⟩ v .plain h1;rw[hc,hf]at e6;rw[e5];unfold storeVar;simp only[Sem.run_bind,hs,Result.andThen,hcl];simp[storeCells,e0,e6,Result.andThen]
theorem jG {S b:Nat} {t:TypeId} {old c:Array Value} (w:World) (hB:Blk w b t old) (hs:(Go.sizeOf S).run P w=.ok c.size w) (he:old.size=c.size) (h1:c.all (·.oneCell')=true) :
  ∃ w',(Instr.storeAt S (.pointer (some ⟨b,0,none⟩)) (.agg c)).run P w=.ok () w'∧Blk w' b t c∧Kept (One b) w w':=by
 have hi:(P.info? S).map (·.size)=some c.size:=by
  unfold Go.sizeOf typeInfo at hs;simp only[Sem.run_bind]at hs;cases hI:P.info? S with
  | none=>simp[hI,go_sem,Result.andThen]at hs
  | some i =>
   simp[hI,go_sem,Result.andThen]at hs;simp[hs]
 refine ⟨w.setRow b c,?_,?_,?_⟩
 ·have e5:(Instr.storeAt S (.pointer (some ⟨b,0,none⟩)) (.agg c)).run P w=(storeVar S ⟨b,0,none⟩ (.agg c)).run P w:=by rfl
  rw[e5,run_storeVar_row (P:=P) w b t S old c hB hi he h1]
 ·unfold Blk at hB ⊢
  show (w.heap.modify b _)[b]?=_;rw[Array.getElem?_modify,if_pos rfl,hB]
  rfl
 ·refine ⟨rfl,rfl,rfl,by simp[World.setRow],λk hk hn=>?_⟩
  have:b≠k:=λe=>hn e.symm
  simp[World.setRow,Array.getElem?_modify,this]
theorem jb {t e ty:TypeId} {s:Option Addr} {m c:Nat} (u:P.underlying t=some (.slice e)) {w:World}:(Builtin.len_ #[t] ty #[.slice s m c]).run P w=.ok (.int .i64 m) w:=by
 have e':P.elem t=e:=by simp[Program.elem,u]
 rw[run_len_slice w t ty s m c (by rw[e'];exact u)]
 rfl
theorem vq {t ty:TypeId} {s:ByteArray} (u:P.underlying t=some .string) {w:World}:(Builtin.len_ #[t] ty #[.string s]).run P w=.ok (.int .i64 s.size) w:=by
 rw[run_len_string w t ty s u]
 rfl
theorem vR {t e b off m c k:Nat} {i:Nat} {K:IntKind} {w:World} (u:P.underlying t=some (.slice e)) (hs:(Go.sizeOf e).run P w=.ok k w) (hi:i<m):(Instr.indexAt t (.slice (some ⟨b,off,none⟩) m c) (.int K i)).run P w=.ok (.pointer (some ⟨b,off+i*k,none⟩)) w:=by
 have e':P.elem t=e:=by simp[Program.elem,u]
 rw[run_indexAt_slice w t _ _ _ _ _ (by rw[e'];exact u),if_pos ⟨by omega,by omega⟩,e',hs];simp[Result.andThen,Addr.add_lit]
theorem jL {n:Int} (h:-9223372036854775808≤n) (h2:n≤9223372036854775807):IntKind.i64.wrap n=n:=by rw[IntKind.wrap_i64];omega
theorem qC {n:Int} (h:0≤n) (h2:n≤255):IntKind.u8.wrap n=n:=by rw[IntKind.wrap_u8];omega
theorem jAj {n:Int} (h:0≤n) (h2:n≤4294967295):IntKind.u32.wrap n=n:=by rw[IntKind.wrap_u32];omega
theorem jE2 {m n:Nat} (hm:m<256) (hn:n<256):Op.intBits .and .u8 (m:Int) (n:Int)=pure (.int .u8 ((m &&& n:Nat):Int)):=by
 have h1:(m &&& n)<256:=Nat.lt_of_le_of_lt Nat.and_le_left hm;have e:(BitVec.ofInt 8 (m:Int) &&& BitVec.ofInt 8 (n:Int)).toNat=m &&& n:=by simp[BitVec.toNat_and,Nat.mod_eq_of_lt hm,Nat.mod_eq_of_lt hn]
 show (pure (.int .u8 (IntKind.u8.wrap ((BitVec.ofInt 8 (m:Int) &&& BitVec.ofInt 8 (n:Int)).toNat:Int))):Sem Value)=_;rw[e,qC (by omega) (by omega)]
theorem j8t {m n:Nat} (hm:m<256) (hn:n<256):Op.intBits .andNot .u8 (m:Int) (n:Int)=pure (.int .u8 ((m &&& (255 - n):Nat):Int)):=by
 have h1:(m &&& (255 - n))<256:=Nat.lt_of_le_of_lt Nat.and_le_left hm;have e:(BitVec.ofInt 8 (m:Int) &&& ~~~BitVec.ofInt 8 (n:Int)).toNat=m &&& (255 - n):=by simp[BitVec.toNat_and,BitVec.toNat_not,Nat.mod_eq_of_lt hm,Nat.mod_eq_of_lt hn]
 show (pure (.int .u8 (IntKind.u8.wrap ((BitVec.ofInt 8 (m:Int) &&& ~~~BitVec.ofInt 8 (n:Int)).toNat:Int))):Sem Value)=_;rw[e,qC (by omega) (by omega)]
theorem j5x {t:TypeId} {m n:Nat} {x y:Operand} {w:World} (hm:m<256) (hn:n<256):(do eqGuard .and t x y (.int .u8 m) (.int .u8 n);binOp .and t (.int .u8 m) (.int .u8 n):Sem Value).run P w=.ok (.int .u8 ((m &&& n:Nat):Int)) w:=by
 simp[eqGuard,binOp,jE2 hm hn]
theorem jCg {t:TypeId} {m n:Nat} {x y:Operand} {w:World} (hm:m<256) (hn:n<256):(do eqGuard .andNot t x y (.int .u8 m) (.int .u8 n);binOp .andNot t (.int .u8 m) (.int .u8 n):Sem Value).run P w=.ok (.int .u8 ((m &&& (255 - n):Nat):Int)) w:=by
 simp[eqGuard,binOp,j8t hm hn]
theorem j2v {T b o:Nat} {w:World} {u v:Value} (e1:(isAgg T).run P w=.ok true w) (e2:(Go.sizeOf T).run P w=.ok 2 w) (h0:w.cell? ⟨b,o,none⟩=some u) (h1:w.cell? ⟨b,o+1,none⟩=some v) :
  (Instr.loadAt T (.pointer (some ⟨b,o,none⟩))).run P w=.ok (.agg #[u,v]) w:=by
 have e3:=run_loadCells_list (P:=P) (w:=w) ⟨b,o,none⟩ [u,v] (λj z hz=>by
  rw[Addr.add_lit]
  match j with
  | 0=>simp at hz;subst hz;exact h0
  | 1=>simp at hz;subst hz;exact h1
  | j+2=>simp at hz)
 have e5:(Instr.loadAt T (.pointer (some ⟨b,o,none⟩))).run P w=(loadVar T ⟨b,o,none⟩).run P w:=by rfl
 rw[e5];unfold loadVar;simp only[Sem.run_bind,e1,e2,Result.andThen,if_true];have e7:(loadCells (⟨b,o,none⟩:Addr) 2).run P w=.ok #[u,v] w:=e3;simp[e7,Result.andThen]
theorem jh {f : Nat} {fn : Func} (hf : P.funcs[f]? = some fn) (hn : (fn.name == "runtime.NumGoroutine") = false) (hb : fn.body.isNone = false) (args : Array Value) (w : World) : (callFunc f args).run P w = .ok (.enter f args) w := by
 have hn' : fn.name ≠ "runtime.NumGoroutine" := by simpa using hn
 have hb':fn.body≠none:=by intro h;rw[h]at hb;simp at hb
 simp[callFunc,hf,hn',hb',go_sem,Sem.run]
theorem j4 {f:Nat} {l:List Operand} {ats:Array TypeId} {vs:List Value} {w:World} (ho:o.op=.call {callee:=.value (.func f),args:=l.toArray,argTypes:=ats}) (hv:ρ (.func f)=.func (.func f) #[] #[]) (hl:l.map ρ=vs)
  (he:∀ args w,(callFunc f args).run P w=.ok (.enter f args) w):(execOp ρ o).run P w=.ok (.enter f vs.toArray) w:=by
 subst hl;simp[execOp,ho,resolve,invoke,go_sem,hv,he]
theorem jj {b:Builtin} {l:List Operand} {ats:Array TypeId} {vs:List Value} {w:World} {r:Result Next} (ho:o.op=.call {callee:=.builtin b,args:=l.toArray,argTypes:=ats}) (hl:l.map ρ=vs)
  (h:∀ cs,(builtin b ats o.type cs vs.toArray).run P w=r):(execOp ρ o).run P w=r:=by
 subst hl;simp only[execOp,ho,resolve,List.map_toArray];exact h _
theorem je {l:List Operand} {ats:Array TypeId} {vs:List Value} {w:World} {v:Value} (ho:o.op=.call {callee:=.builtin .len,args:=l.toArray,argTypes:=ats}) (hl:l.map ρ=vs)
  (h:(Builtin.len_ ats o.type vs.toArray).run P w=.ok v w):(execOp ρ o).run P w=.ok (.value v) w :=
 jj ho hl (λcs=>by simp only[builtin];exact qM h)
theorem j6:([]:List Operand).map ρ=[]:=rfl
theorem j0 {x:Operand} {l:List Operand} {v:Value} {vs:List Value} (hx:ρ x=v) (hl:l.map ρ=vs):(x :: l).map ρ=v :: vs:=by simp[hx,hl]
theorem qL:([]:List (Nat × Operand)).map (λx=>(x.1,ρ x.2))=[]:=rfl
theorem j8 {i:Nat} {x:Operand} {l:List (Nat × Operand)} {v:Value} {vs:List (Nat × Value)} (hx:ρ x=v) (hl:(l.map λx=>(x.1,ρ x.2))=vs):(((i,x) :: l).map λx=>(x.1,ρ x.2))=(i,v) :: vs:=by simp[hx,hl]
theorem jHr {w:World} {t:TypeId} {k:IntKind} {i j:Int} {x y:Operand}:(do eqGuard .lss t x y (.int k i) (.int k j);binOp .lss t (.int k i) (.int k j):Sem Value).run P w=.ok (.bool (decide (i<j))) w:=by simp[eqGuard,binOp,Op.intCmp]
theorem jHq {w:World} {t:TypeId} {k:IntKind} {i j:Int} {x y:Operand}:(do eqGuard .leq t x y (.int k i) (.int k j);binOp .leq t (.int k i) (.int k j):Sem Value).run P w=.ok (.bool (decide (i≤j))) w:=by simp[eqGuard,binOp,Op.intCmp]
theorem jHp {w:World} {t:TypeId} {k:IntKind} {i j:Int} {x y:Operand}:(do eqGuard .gtr t x y (.int k i) (.int k j);binOp .gtr t (.int k i) (.int k j):Sem Value).run P w=.ok (.bool (decide (j<i))) w:=by simp[eqGuard,binOp,Op.intCmp]
theorem jHo {w:World} {t:TypeId} {k:IntKind} {i j:Int} {x y:Operand}:(do eqGuard .geq t x y (.int k i) (.int k j);binOp .geq t (.int k i) (.int k j):Sem Value).run P w=.ok (.bool (decide (j≤i))) w:=by simp[eqGuard,binOp,Op.intCmp]
theorem jH {w:World} {t:TypeId} {k:IntKind} {i j:Int} {x y:Operand}:(do eqGuard .eql t x y (.int k i) (.int k j);binOp .eql t (.int k i) (.int k j):Sem Value).run P w=.ok (.bool (decide (i=j))) w:=by
 have e:(i == j)=decide (i=j):=by rw[Bool.eq_iff_iff];simp
 simp[eqGuard,binOp,Op.intCmp,e]
theorem j9j {w:World} {t:TypeId} {k:IntKind} {i j:Int} {x y:Operand}:(do eqGuard .neq t x y (.int k i) (.int k j);binOp .neq t (.int k i) (.int k j):Sem Value).run P w=.ok (.bool (!decide (i=j))) w:=by
 have e:(i != j) = !decide (i=j):=by rw[Bool.eq_iff_iff];simp
 simp[eqGuard,binOp,Op.intCmp,e]
theorem qd {w:World} {t:TypeId} {k:IntKind} {i j:Nat} {x y:Operand}:(do eqGuard .lss t x y (.int k i) (.int k j);binOp .lss t (.int k i) (.int k j):Sem Value).run P w=.ok (.bool (decide (i<j))) w:=by
 rw[jHr];simp
theorem j4f {w:World} {t:TypeId} {k:IntKind} {i j:Nat} {x y:Operand}:(do eqGuard .leq t x y (.int k i) (.int k j);binOp .leq t (.int k i) (.int k j):Sem Value).run P w=.ok (.bool (decide (i≤j))) w:=by
 rw[jHq];simp
theorem vQ {w:World} {t:TypeId} {k:IntKind} {i j:Nat} {x y:Operand}:(do eqGuard .gtr t x y (.int k i) (.int k j);binOp .gtr t (.int k i) (.int k j):Sem Value).run P w=.ok (.bool (decide (j<i))) w:=by
 rw[jHp];simp
theorem jK7 {w:World} {t:TypeId} {k:IntKind} {i j:Nat} {x y:Operand}:(do eqGuard .geq t x y (.int k i) (.int k j);binOp .geq t (.int k i) (.int k j):Sem Value).run P w=.ok (.bool (decide (j≤i))) w:=by
 rw[jHo];simp
theorem jl {w:World} {t:TypeId} {k:IntKind} {i j:Nat} {x y:Operand}:(do eqGuard .eql t x y (.int k i) (.int k j);binOp .eql t (.int k i) (.int k j):Sem Value).run P w=.ok (.bool (decide (i=j))) w:=by
 rw[jH];simp[Int.natCast_inj]
theorem vc {w:World} {t:TypeId} {k:IntKind} {i j:Nat} {x y:Operand}:(do eqGuard .neq t x y (.int k i) (.int k j);binOp .neq t (.int k i) (.int k j):Sem Value).run P w=.ok (.bool (!decide (i=j))) w:=by
 rw[j9j];simp[Int.natCast_inj]
theorem zl {w:World} {t:TypeId} (u:P.underlying t=some .bool) {i j:Bool} {x y:Operand}:(do eqGuard .eql t x y (.bool i) (.bool j);binOp .eql t (.bool i) (.bool j):Sem Value).run P w=.ok (.bool (i == j)) w:=by
 cases i<;>cases j<;>go_simp
theorem j1r {w:World} {t:TypeId} (u:P.underlying t=some .bool) {i j:Bool} {x y:Operand}:(do eqGuard .neq t x y (.bool i) (.bool j);binOp .neq t (.bool i) (.bool j):Sem Value).run P w=.ok (.bool (!(i == j))) w:=by
 cases i<;>cases j<;>go_simp
theorem vF {w:World} {t:TypeId} {i j:ByteArray} {x y:Operand}:(do eqGuard .eql t x y (.string i) (.string j);binOp .eql t (.string i) (.string j):Sem Value).run P w=.ok (.bool (decide (i=j))) w:=by
 have e:(i.toList == j.toList)=decide (i=j):=by rw[Bool.eq_iff_iff];simp[j44]
 simp[eqGuard,binOp,Op.stringOp,e]
theorem j9l {w:World} {t:TypeId} {i j:ByteArray} {x y:Operand}:(do eqGuard .neq t x y (.string i) (.string j);binOp .neq t (.string i) (.string j):Sem Value).run P w=.ok (.bool (!decide (i=j))) w:=by
 have e:(i.toList == j.toList)=decide (i=j):=by rw[Bool.eq_iff_iff];simp[j44]
 simp[eqGuard,binOp,Op.stringOp,e]
theorem jd {w:World} {t:TypeId} {k:IntKind} {i j c:Int} {x y:Operand} (h:k.wrap (i+j)=c):(do eqGuard .add t x y (.int k i) (.int k j);binOp .add t (.int k i) (.int k j):Sem Value).run P w=.ok (.int k c) w:=by subst h;simp[eqGuard,binOp,Op.intArith]
theorem j1s {w:World} {t:TypeId} {k:IntKind} {i j c:Int} {x y:Operand} (h:k.wrap (i*j)=c):(do eqGuard .mul t x y (.int k i) (.int k j);binOp .mul t (.int k i) (.int k j):Sem Value).run P w=.ok (.int k c) w:=by subst h;simp[eqGuard,binOp,Op.intArith]
theorem jN1 {w:World} {t:TypeId} {k:IntKind} {i j c:Int} {x y:Operand} (hj:j≠0) (h:k.wrap (i.tdiv j)=c):(do eqGuard .quo t x y (.int k i) (.int k j);binOp .quo t (.int k i) (.int k j):Sem Value).run P w=.ok (.int k c) w:=by subst h;simp[eqGuard,binOp,Op.intDiv,hj]
theorem j9k {w:World} {t:TypeId} {k:IntKind} {i j c:Int} {x y:Operand} (hj:j≠0) (h:i.tmod j=c):(do eqGuard .rem t x y (.int k i) (.int k j);binOp .rem t (.int k i) (.int k j):Sem Value).run P w=.ok (.int k c) w:=by subst h;simp[eqGuard,binOp,Op.intDiv,hj]
end
section
variable {P:Program} {Q:Exit→Act→World→Prop} {a:Act} {w:World}
theorem jC {id:Nat} {l:List Oper} (h:wpList P l.toArray Q l a w):(Code.region id l.toArray false).wp P Q a w:=wp_region_lit h
theorem sg {P:Program} {Q:Exit→Act→World→Prop} {a:Act} {w:World} {id:Nat} {l:List Oper} {y:Code} (h:∀ K':Act→World→Prop,(∀ a w,y.wp P Q a w→K' a w)→wpList P l.toArray (Exit.then K' Q) l a w):(Code.seq (Code.region id l.toArray false) y).wp P Q a w:=wp_seq_k λK' hK'=>jC (h K' hK')
theorem nn {P:Program} {ops:Array Oper} {Q:Exit→Act→World→Prop} {p:Prop} {a:Act} {w:World} (hK:p→Q .normal a w) (h:p):wpList P ops Q [] a w:=hK h
theorem jE (h:Q .ret a w):Code.ret.wp P Q a w:=wp_ret h
theorem jMs {fn:Func} {t:Nat} {v:Value} (h:fn.results=#[.tmp t]) (f:a.tmps[t]?=some v):(results fn a.tmps).run P w=.ok v w:=by
 simp[results,h,Array.getD_eq_getD_getElem?,f,go_sem]
theorem ju {fn:Func} {t g:Nat} {T:TypeId} {v:Value} (h:fn.results=#[.cell t T]) (f:a.tmps[t]?=some (.pointer (some ⟨g,0,none⟩))) (hl:(Instr.loadAt T (.pointer (some ⟨g,0,none⟩))).run P w=.ok v w):(results fn a.tmps).run P w=.ok v w:=by
 have hl2:(loadVar T ⟨g,0,none⟩).run P w=.ok v w:=hl;unfold results;rw[h];have ha2:asAddr (a.tmps.getD t undef)=(pure ⟨g,0,none⟩:Sem Addr):=by rw[Array.getD_eq_getD_getElem?,f];rfl
 simp only[List.mapM_toArray,List.mapM_cons,List.mapM_nil,Array.mapM_eq_mapM_toList];rw[ha2];simp[hl2,Result.andThen]
end
set_option maxRecDepth 100000
theorem jFc (w:World):(isAgg 31).run Tryz.prog w=.ok false w:=by kernel_rfl
theorem jNk (w:World):(isAgg 23).run Tryz.prog w=.ok false w:=by kernel_rfl
theorem jNl (w:World):(isAgg 24).run Tryz.prog w=.ok false w:=by kernel_rfl
theorem jNm (w:World):(isAgg 30).run Tryz.prog w=.ok false w:=by kernel_rfl
theorem j22 (w:World):(isAgg 25).run Tryz.prog w=.ok false w:=by kernel_rfl
theorem jP3 (w:World):(isAgg 4).run Tryz.prog w=.ok false w:=by kernel_rfl
theorem j5h (w:World):(isAgg 3).run Tryz.prog w=.ok false w:=by kernel_rfl
theorem jDy (w:World):(isAgg 9).run Tryz.prog w=.ok false w:=by kernel_rfl
theorem jNj (w:World):(isAgg 22).run Tryz.prog w=.ok false w:=by kernel_rfl
theorem j3c (w:World):(isAgg 5).run Tryz.prog w=.ok false w:=by kernel_rfl
theorem jMo (w:World):(Go.sizeOf 31).run Tryz.prog w=.ok 1 w:=by kernel_rfl
theorem jMl (w:World):(Go.sizeOf 23).run Tryz.prog w=.ok 1 w:=by kernel_rfl
theorem jMm (w:World):(Go.sizeOf 24).run Tryz.prog w=.ok 1 w:=by kernel_rfl
theorem jMn (w:World):(Go.sizeOf 30).run Tryz.prog w=.ok 1 w:=by kernel_rfl
theorem jH2 (w:World):(Go.sizeOf 25).run Tryz.prog w=.ok 1 w:=by kernel_rfl
theorem jOo (w:World):(Go.sizeOf 4).run Tryz.prog w=.ok 1 w:=by kernel_rfl
theorem jOn (w:World):(Go.sizeOf 3).run Tryz.prog w=.ok 1 w:=by kernel_rfl
theorem jOp (w:World):(Go.sizeOf 9).run Tryz.prog w=.ok 1 w:=by kernel_rfl
theorem jMk (w:World):(Go.sizeOf 22).run Tryz.prog w=.ok 1 w:=by kernel_rfl
theorem j6m (w:World):(Go.sizeOf 5).run Tryz.prog w=.ok 1 w:=by kernel_rfl
theorem j94 (w:World):(isAgg 102).run Tryz.prog w=.ok true w:=by kernel_rfl
theorem j13 (w:World):(Go.sizeOf 102).run Tryz.prog w=.ok 2 w:=by kernel_rfl
theorem jf (w:World):(isAgg 33).run Tryz.prog w=.ok true w:=by kernel_rfl
theorem jR (w:World):(Go.sizeOf 33).run Tryz.prog w=.ok 25 w:=by kernel_rfl
theorem jDb (w:World):(Go.sizeOf 92).run Tryz.prog w=.ok 4 w:=by kernel_rfl
theorem jAh (w:World):(isAgg 97).run Tryz.prog w=.ok true w:=by kernel_rfl
theorem vz (w:World):(Go.sizeOf 97).run Tryz.prog w=.ok 2 w:=by kernel_rfl
theorem qA (w:World):(isAgg 27).run Tryz.prog w=.ok true w:=by kernel_rfl
theorem jc (w:World):(Go.sizeOf 27).run Tryz.prog w=.ok 25 w:=by kernel_rfl
theorem jMq (w:World):(Go.sizeOf 158).run Tryz.prog w=.ok 4 w:=by kernel_rfl
theorem jFl:FAt Tryz.prog 102 0 0:=by
 intro B o w
 have u:=Tryz.underlying102
 go_simp
theorem jFm:FAt Tryz.prog 102 1 1:=by
 intro B o w
 have u:=Tryz.underlying102
 go_simp
theorem jJ0:FAt Tryz.prog 33 0 0:=by
 intro B o w
 have u:=Tryz.underlying33
 go_simp
theorem jJ1:FAt Tryz.prog 33 1 1:=by
 intro B o w
 have u:=Tryz.underlying33
 go_simp
theorem jJ2:FAt Tryz.prog 33 2 2:=by
 intro B o w
 have u:=Tryz.underlying33
 go_simp
theorem jJ3:FAt Tryz.prog 33 3 3:=by
 intro B o w
 have u:=Tryz.underlying33
 go_simp
theorem jJ4:FAt Tryz.prog 33 4 4:=by
 intro B o w
 have u:=Tryz.underlying33
 go_simp
theorem jJ5:FAt Tryz.prog 33 5 5:=by
 intro B o w
 have u:=Tryz.underlying33
 go_simp
theorem jJ6:FAt Tryz.prog 33 6 6:=by
 intro B o w
 have u:=Tryz.underlying33
 go_simp
theorem jJ7:FAt Tryz.prog 33 7 7:=by
 intro B o w
 have u:=Tryz.underlying33
 go_simp
theorem jJ8:FAt Tryz.prog 33 8 8:=by
 intro B o w
 have u:=Tryz.underlying33
 go_simp
theorem jJ9:FAt Tryz.prog 33 9 9:=by
 intro B o w
 have u:=Tryz.underlying33
 go_simp
theorem jG1:FAt Tryz.prog 33 10 10:=by
 intro B o w
 have u:=Tryz.underlying33
 go_simp
theorem jG2:FAt Tryz.prog 33 11 11:=by
 intro B o w
 have u:=Tryz.underlying33
 go_simp
theorem jG3:FAt Tryz.prog 33 12 12:=by
 intro B o w
 have u:=Tryz.underlying33
 go_simp
theorem jG4:FAt Tryz.prog 33 13 13:=by
 intro B o w
 have u:=Tryz.underlying33
 go_simp
theorem jG5:FAt Tryz.prog 33 14 14:=by
 intro B o w
 have u:=Tryz.underlying33
 go_simp
theorem jG6:FAt Tryz.prog 33 15 15:=by
 intro B o w
 have u:=Tryz.underlying33
 go_simp
theorem jG7:FAt Tryz.prog 33 16 16:=by
 intro B o w
 have u:=Tryz.underlying33
 go_simp
theorem jG8:FAt Tryz.prog 33 17 17:=by
 intro B o w
 have u:=Tryz.underlying33
 go_simp
theorem jG9:FAt Tryz.prog 33 18 18:=by
 intro B o w
 have u:=Tryz.underlying33
 go_simp
theorem jGa:FAt Tryz.prog 33 19 19:=by
 intro B o w
 have u:=Tryz.underlying33
 go_simp
theorem jGb:FAt Tryz.prog 33 20 20:=by
 intro B o w
 have u:=Tryz.underlying33
 go_simp
theorem jGc:FAt Tryz.prog 33 21 21:=by
 intro B o w
 have u:=Tryz.underlying33
 go_simp
theorem j6e:FAt Tryz.prog 33 22 22:=by
 intro B o w
 have u:=Tryz.underlying33
 go_simp
theorem jGd:FAt Tryz.prog 33 23 23:=by
 intro B o w
 have u:=Tryz.underlying33
 go_simp
theorem jGe:FAt Tryz.prog 33 24 24:=by
 intro B o w
 have u:=Tryz.underlying33
 go_simp
theorem jJa:FAt Tryz.prog 92 2 2:=by
 intro B o w
 have u:=Tryz.underlying92
 go_simp
theorem jJb:FAt Tryz.prog 92 3 3:=by
 intro B o w
 have u:=Tryz.underlying92
 go_simp
theorem jJc:FAt Tryz.prog 97 0 0:=by
 intro B o w
 have u:=Tryz.underlying97
 go_simp
theorem jJd:FAt Tryz.prog 97 1 1:=by
 intro B o w
 have u:=Tryz.underlying97
 go_simp
theorem j5r:FAt Tryz.prog 27 0 0:=by
 intro B o w
 have u:=Tryz.underlying27
 go_simp
theorem jIr:FAt Tryz.prog 27 1 1:=by
 intro B o w
 have u:=Tryz.underlying27
 go_simp
theorem jIs:FAt Tryz.prog 27 2 2:=by
 intro B o w
 have u:=Tryz.underlying27
 go_simp
theorem jIt:FAt Tryz.prog 27 3 3:=by
 intro B o w
 have u:=Tryz.underlying27
 go_simp
theorem jIu:FAt Tryz.prog 27 4 4:=by
 intro B o w
 have u:=Tryz.underlying27
 go_simp
theorem jIv:FAt Tryz.prog 27 5 5:=by
 intro B o w
 have u:=Tryz.underlying27
 go_simp
theorem jIw:FAt Tryz.prog 27 6 6:=by
 intro B o w
 have u:=Tryz.underlying27
 go_simp
theorem jIx:FAt Tryz.prog 27 7 7:=by
 intro B o w
 have u:=Tryz.underlying27
 go_simp
theorem jIy:FAt Tryz.prog 27 8 8:=by
 intro B o w
 have u:=Tryz.underlying27
 go_simp
theorem jIz:FAt Tryz.prog 27 9 9:=by
 intro B o w
 have u:=Tryz.underlying27
 go_simp
theorem jFn:FAt Tryz.prog 27 10 10:=by
 intro B o w
 have u:=Tryz.underlying27
 go_simp
theorem jFo:FAt Tryz.prog 27 11 11:=by
 intro B o w
 have u:=Tryz.underlying27
 go_simp
theorem jFp:FAt Tryz.prog 27 12 12:=by
 intro B o w
 have u:=Tryz.underlying27
 go_simp
theorem jFq:FAt Tryz.prog 27 13 13:=by
 intro B o w
 have u:=Tryz.underlying27
 go_simp
theorem jFr:FAt Tryz.prog 27 14 14:=by
 intro B o w
 have u:=Tryz.underlying27
 go_simp
theorem jFs:FAt Tryz.prog 27 15 15:=by
 intro B o w
 have u:=Tryz.underlying27
 go_simp
theorem jFt:FAt Tryz.prog 27 16 16:=by
 intro B o w
 have u:=Tryz.underlying27
 go_simp
theorem jFu:FAt Tryz.prog 27 17 17:=by
 intro B o w
 have u:=Tryz.underlying27
 go_simp
theorem jFv:FAt Tryz.prog 27 18 18:=by
 intro B o w
 have u:=Tryz.underlying27
 go_simp
theorem jFw:FAt Tryz.prog 27 19 19:=by
 intro B o w
 have u:=Tryz.underlying27
 go_simp
theorem jFx:FAt Tryz.prog 27 20 20:=by
 intro B o w
 have u:=Tryz.underlying27
 go_simp
theorem jFy:FAt Tryz.prog 27 21 21:=by
 intro B o w
 have u:=Tryz.underlying27
 go_simp
theorem jFz:FAt Tryz.prog 27 22 22:=by
 intro B o w
 have u:=Tryz.underlying27
 go_simp
theorem zD:FAt Tryz.prog 27 23 23:=by
 intro B o w
 have u:=Tryz.underlying27
 go_simp
theorem jG0:FAt Tryz.prog 27 24 24:=by
 intro B o w
 have u:=Tryz.underlying27
 go_simp
theorem jBm (w:World):(Instr.alloc 102 true (.tuple #[])).run Tryz.prog w=.ok (.pointer (some ⟨w.heap.size,0,none⟩)) (w.alloc (.cells #[(.string ⟨#[]⟩),(.int .u8 0)] 102)):=by kernel_rfl
theorem j0f (w:World):(Instr.alloc 33 true (.tuple #[])).run Tryz.prog w=.ok (.pointer (some ⟨w.heap.size,0,none⟩)) (w.alloc (.cells q9 33)):=by kernel_rfl
theorem jCv (w:World):(Instr.alloc 92 true (.tuple #[])).run Tryz.prog w=.ok (.pointer (some ⟨w.heap.size,0,none⟩)) (w.alloc (.cells #[(.int .u8 0),(.int .u32 0),(.string ⟨#[]⟩),(.string ⟨#[]⟩)] 92)):=by kernel_rfl
theorem j9y (w:World):(Instr.alloc 97 true (.tuple #[])).run Tryz.prog w=.ok (.pointer (some ⟨w.heap.size,0,none⟩)) (w.alloc (.cells #[(.string ⟨#[]⟩),(.int .u8 0)] 97)):=by kernel_rfl
theorem j64 (w:World):(Instr.alloc 27 true (.tuple #[])).run Tryz.prog w=.ok (.pointer (some ⟨w.heap.size,0,none⟩)) (w.alloc (.cells q9 27)):=by kernel_rfl
theorem jLc (w:World):(Instr.alloc 158 true (.tuple #[])).run Tryz.prog w=.ok (.pointer (some ⟨w.heap.size,0,none⟩)) (w.alloc (.cells #[(.int .u8 0),(.int .u32 0),(.string ⟨#[]⟩),(.string ⟨#[]⟩)] 158)):=by kernel_rfl
open Go.RowKit Go.ChangeShapes Go.WideShapes Go.Deep
structure j8r (w:World) (a:Option Addr) (len cap:Nat) (l:List UInt8):Prop where
 hlen:l.length=len
 hrow:Row w a (B8 l)
 hle:len≤cap
 hcap:cap≤maxLen
 hnil:a=none→len=0∧cap=0
theorem IsRow.bytes {w:World} {a:Option Addr} {len cap:Nat} {zs:List Int} (h:IsRow .u8 w a len cap zs):j8r w a len cap ((zs.take len).map jY):=by
 obtain ⟨hrow,hlen,hlc,hcm,hn,hwf⟩:=h.row;rw[jC0 hwf]at hrow;exact ⟨by simpa using hlen,hrow,hlc,hcm,(λh=>by have:=hn h;omega)⟩
structure IsPk (w:World) (p:Pk) (s:Sl):Prop where
 hkind:(Lit.int .i64 p.kind).wf=true
 hqos:p.qos<256
 hid:p.id<65536
 hkeep:p.keep<65536
 hwillQoS:p.willQoS<256
 hcode:p.code<256
 hclient:p.client.size≤maxLen
 hwillTopic:p.willTopic.size≤maxLen
 hwillLoad:p.willLoad.size≤maxLen
 huser:p.user.size≤maxLen
 hpass:p.pass.size≤maxLen
 htopic:p.topic.size≤maxLen
 hload:p.load.size≤maxLen
 hw:j5o w s.wa p.willProps.length s.wc p.willProps
 hf:j8s w s.fa p.filters.length s.fc p.filters
 hc:j8r w s.ca p.codes.length s.cc p.codes
 hp:j5o w s.pa p.props.length s.pc p.props
theorem j66 {x:Int} (h:(Lit.int .u16 x).wf=true):0≤x∧x≤65535:=by
 have h2:IntKind.u16.min≤x∧x≤IntKind.u16.max:=by simpa [Lit.wf] using h
 exact h2
section
variable {H:Type} {enc:TypeId × Value→H} {w:World} {base:Nat} {spare:Nat→Bool} {held:Bool}
theorem jJs {r:Go.Reach} {b0:Nat} {v:Value} {d:DataW H} {pl:List MemPlace} (hv:Value.okWide Tryz.prog w r b0 27 v) (h:DataW.Trod enc Tryz.prog w base (λ_=>true) held 27 v d pl) :
  ∃ p s,v=Pk.val p s∧IsPk w p s:=by
 have u:=Tryz.underlying27;obtain ⟨cs,rfl,hsz⟩:=okWide_struct u hv;have hC:Tryz.prog.cellsOf 27=25:=by kernel_rfl
 obtain ⟨l⟩:=cs
 match l,hsz.trans hC with
 | [c0,c1,c2,c3,c4,c5,c6,c7,c8,c9,c10,c11,c12,c13,c14,c15,c16,c17,c18,c19,c20,c21,c22,c23,c24],_ =>
  obtain ⟨fuel,hf⟩:=h;simp only[Value.cells]at hf;obtain ⟨k0,y0,t0⟩:=qI (j:=0) u hf rfl rfl (by kernel_rfl) (by simp);simp only[List.getElem_cons_succ,List.getElem_cons_zero]at t0;obtain ⟨x0,e0,_,w0⟩:=DataW.trod_int Tryz.underlying3 t0;obtain rfl:=List.singleton_inj.1 e0;obtain ⟨k1,y1,t1⟩:=qI (j:=1) u hf rfl rfl (by kernel_rfl) (by simp);simp only[List.getElem_cons_succ,List.getElem_cons_zero]at t1;obtain ⟨x1,e1,_⟩:=DataW.trod_bool Tryz.underlying4 t1;obtain rfl:=List.singleton_inj.1 e1;obtain ⟨k2,y2,t2⟩:=qI (j:=2) u hf rfl rfl (by kernel_rfl) (by simp);simp only[List.getElem_cons_succ,List.getElem_cons_zero]at t2;obtain ⟨x2,e2,_⟩:=DataW.trod_bool Tryz.underlying4 t2;obtain rfl:=List.singleton_inj.1 e2;obtain ⟨k3,y3,t3⟩:=qI (j:=3) u hf rfl rfl (by kernel_rfl) (by simp);simp only[List.getElem_cons_succ,List.getElem_cons_zero]at t3;obtain ⟨x3,e3,_,w3⟩:=DataW.trod_int Tryz.underlying5 t3;obtain rfl:=List.singleton_inj.1 e3;have b3:=bounds_u8 w3;obtain ⟨n3,rfl⟩:=Int.eq_ofNat_of_zero_le b3.1;obtain ⟨k4,y4,t4⟩:=qI (j:=4) u hf rfl rfl (by kernel_rfl) (by simp);simp only[List.getElem_cons_succ,List.getElem_cons_zero]at t4;obtain ⟨x4,e4,_,w4⟩:=DataW.trod_int Tryz.underlying22 t4;obtain rfl:=List.singleton_inj.1 e4;have b4:=j66 w4;obtain ⟨n4,rfl⟩:=Int.eq_ofNat_of_zero_le b4.1;obtain ⟨k5,y5,t5⟩:=qI (j:=5) u hf rfl rfl (by kernel_rfl) (by simp);simp only[List.getElem_cons_succ,List.getElem_cons_zero]at t5;obtain ⟨x5,e5,_⟩:=DataW.trod_bool Tryz.underlying4 t5;obtain rfl:=List.singleton_inj.1 e5;obtain ⟨k6,y6,t6⟩:=qI (j:=6) u hf rfl rfl (by kernel_rfl) (by simp);simp only[List.getElem_cons_succ,List.getElem_cons_zero]at t6;obtain ⟨x6,e6,_,w6⟩:=DataW.trod_int Tryz.underlying22 t6;obtain rfl:=List.singleton_inj.1 e6;have b6:=j66 w6;obtain ⟨n6,rfl⟩:=Int.eq_ofNat_of_zero_le b6.1;obtain ⟨k7,y7,t7⟩:=qI (j:=7) u hf rfl rfl (by kernel_rfl) (by simp);simp only[List.getElem_cons_succ,List.getElem_cons_zero]at t7;obtain ⟨x7,e7,_,w7⟩:=DataW.trod_string Tryz.underlying9 t7;obtain rfl:=List.singleton_inj.1 e7;obtain ⟨k8,y8,t8⟩:=qI (j:=8) u hf rfl rfl (by kernel_rfl) (by simp);simp only[List.getElem_cons_succ,List.getElem_cons_zero]at t8;obtain ⟨x8,e8,_⟩:=DataW.trod_bool Tryz.underlying4 t8;obtain rfl:=List.singleton_inj.1 e8;obtain ⟨k9,y9,t9⟩:=qI (j:=9) u hf rfl rfl (by kernel_rfl) (by simp);simp only[List.getElem_cons_succ,List.getElem_cons_zero]at t9;obtain ⟨x9,e9,_⟩:=DataW.trod_bool Tryz.underlying4 t9;obtain rfl:=List.singleton_inj.1 e9;obtain ⟨k10,y10,t10⟩:=qI (j:=10) u hf rfl rfl (by kernel_rfl) (by simp);simp only[List.getElem_cons_succ,List.getElem_cons_zero]at t10;obtain ⟨x10,e10,_⟩:=DataW.trod_bool Tryz.underlying4 t10;obtain rfl:=List.singleton_inj.1 e10;obtain ⟨k11,y11,t11⟩:=qI (j:=11) u hf rfl rfl (by kernel_rfl) (by simp);simp only[List.getElem_cons_succ,List.getElem_cons_zero]at t11;obtain ⟨x11,e11,_,w11⟩:=DataW.trod_int Tryz.underlying5 t11;obtain rfl:=List.singleton_inj.1 e11;have b11:=bounds_u8 w11;obtain ⟨n11,rfl⟩:=Int.eq_ofNat_of_zero_le b11.1;obtain ⟨k12,y12,t12⟩:=qI (j:=12) u hf rfl rfl (by kernel_rfl) (by simp);simp only[List.getElem_cons_succ,List.getElem_cons_zero]at t12;obtain ⟨x12,e12,_⟩:=DataW.trod_bool Tryz.underlying4 t12;obtain rfl:=List.singleton_inj.1 e12;obtain ⟨k13,y13,t13⟩:=qI (j:=13) u hf rfl rfl (by kernel_rfl) (by simp);simp only[List.getElem_cons_succ,List.getElem_cons_zero]at t13;obtain ⟨a13,l13,q13,x13,e13,w13⟩:=j73 t13;obtain rfl:=w13.hlen;obtain rfl:=List.singleton_inj.1 e13;obtain ⟨k14,y14,t14⟩:=qI (j:=14) u hf rfl rfl (by kernel_rfl) (by simp);simp only[List.getElem_cons_succ,List.getElem_cons_zero]at t14;obtain ⟨x14,e14,_,w14⟩:=DataW.trod_string Tryz.underlying9 t14;obtain rfl:=List.singleton_inj.1 e14;obtain ⟨k15,y15,t15⟩:=qI (j:=15) u hf rfl rfl (by kernel_rfl) (by simp);simp only[List.getElem_cons_succ,List.getElem_cons_zero]at t15;obtain ⟨x15,e15,_,w15⟩:=DataW.trod_string Tryz.underlying9 t15
  obtain rfl:=List.singleton_inj.1 e15;obtain ⟨k16,y16,t16⟩:=qI (j:=16) u hf rfl rfl (by kernel_rfl) (by simp);simp only[List.getElem_cons_succ,List.getElem_cons_zero]at t16;obtain ⟨x16,e16,_,w16⟩:=DataW.trod_string Tryz.underlying9 t16;obtain rfl:=List.singleton_inj.1 e16;obtain ⟨k17,y17,t17⟩:=qI (j:=17) u hf rfl rfl (by kernel_rfl) (by simp);simp only[List.getElem_cons_succ,List.getElem_cons_zero]at t17;obtain ⟨x17,e17,_,w17⟩:=DataW.trod_string Tryz.underlying9 t17;obtain rfl:=List.singleton_inj.1 e17;obtain ⟨k18,y18,t18⟩:=qI (j:=18) u hf rfl rfl (by kernel_rfl) (by simp);simp only[List.getElem_cons_succ,List.getElem_cons_zero]at t18;obtain ⟨x18,e18,_⟩:=DataW.trod_bool Tryz.underlying4 t18;obtain rfl:=List.singleton_inj.1 e18;obtain ⟨k19,y19,t19⟩:=qI (j:=19) u hf rfl rfl (by kernel_rfl) (by simp);simp only[List.getElem_cons_succ,List.getElem_cons_zero]at t19;obtain ⟨x19,e19,_,w19⟩:=DataW.trod_int Tryz.underlying5 t19;obtain rfl:=List.singleton_inj.1 e19;have b19:=bounds_u8 w19;obtain ⟨n19,rfl⟩:=Int.eq_ofNat_of_zero_le b19.1;obtain ⟨k20,y20,t20⟩:=qI (j:=20) u hf rfl rfl (by kernel_rfl) (by simp);simp only[List.getElem_cons_succ,List.getElem_cons_zero]at t20;obtain ⟨x20,e20,_,w20⟩:=DataW.trod_string Tryz.underlying9 t20;obtain rfl:=List.singleton_inj.1 e20;obtain ⟨k21,y21,t21⟩:=qI (j:=21) u hf rfl rfl (by kernel_rfl) (by simp);simp only[List.getElem_cons_succ,List.getElem_cons_zero]at t21;obtain ⟨x21,e21,_,w21⟩:=DataW.trod_string Tryz.underlying9 t21;obtain rfl:=List.singleton_inj.1 e21;obtain ⟨k22,y22,t22⟩:=qI (j:=22) u hf rfl rfl (by kernel_rfl) (by simp);simp only[List.getElem_cons_succ,List.getElem_cons_zero]at t22;obtain ⟨a22,l22,q22,x22,e22,w22⟩:=jCa t22;obtain rfl:=w22.hlen;obtain rfl:=List.singleton_inj.1 e22;obtain ⟨k23,y23,t23⟩:=qI (j:=23) u hf rfl rfl (by kernel_rfl) (by simp);simp only[List.getElem_cons_succ,List.getElem_cons_zero]at t23
  obtain ⟨a23,l23,q23,x23,e23,w23⟩:∃ a len cap l,[c23]=[Value.slice a len cap]∧j8r w a len cap l:=by
   rcases open_ints Tryz.underlying25 Tryz.underlying5 (by kernel_rfl) t23 with ⟨hcs,_⟩|⟨x,l,c,zs,hcs,_,hl,hm,hz,_,hcell,hwz⟩
   ·exact ⟨none,0,0,[],hcs,rfl,.nil _ _,Nat.le_refl _,by simp,λ_=>⟨rfl,rfl⟩⟩
   ·have hr:IsRow .u8 w (some x) l c zs:=.inr ⟨_,rfl,hl,hm,by simpa using hz,hcell,hwz⟩
    exact ⟨_,l,c,_,hcs,hr.bytes⟩
  obtain rfl:=w23.hlen;obtain rfl:=List.singleton_inj.1 e23;obtain ⟨k24,y24,t24⟩:=qI (j:=24) u hf rfl rfl (by kernel_rfl) (by simp);simp only[List.getElem_cons_succ,List.getElem_cons_zero]at t24;obtain ⟨a24,l24,q24,x24,e24,w24⟩:=j73 t24;obtain rfl:=w24.hlen;obtain rfl:=List.singleton_inj.1 e24;refine ⟨⟨x0,x1,x2,n3,n4,x5,n6,x7,x8,x9,x10,n11,x12,x13,x14,x15,x16,x17,x18,n19,x20,x21,x22,x23,x24⟩,⟨a13,q13,a22,q22,a23,q23,a24,q24⟩,rfl,?_⟩;exact ⟨w0,(by have:=b3.2;omega:n3<256),(by have:=b4.2;omega:n4<65536),(by have:=b6.2;omega:n6<65536),(by have:=b11.2;omega:n11<256),(by have:=b19.2;omega:n19<256),w7,w14,w15,w16,w17,w20,w21,w13,w22,w23,w24⟩
end
end Go.Proofs.YtdeecgmihfakgaaGreatDoor
namespace Go.Proofs.YtdeecgmihfakgaaGreatDoor
open Go.RowKit Go.ChangeShapes Go.WideShapes Go.Deep
set_option linter.unusedVariables false
set_option linter.unusedSimpArgs false
set_option maxRecDepth 100000
section
variable {H:Type} {enc:TypeId × Value→H} {w:World} {base:Nat} {spare:Nat→Bool} {held:Bool}
def j1x (P:Program) (t:TypeId) (d:DataW H):Prop:=∀ n∈d.weights P t,n≤140737488351232
theorem j3j {P:Program}:∀ (ts:List TypeId) (ds:List (DataW H)),(∀ n∈DataW.weightsEach P ts ds,n≤140737488351232)→∀ (j:Nat) (t:TypeId) (d:DataW H),ts[j]?=some t→ds[j]?=some d→j1x P t d
 | [],_,_,j,t,d,ht,_=>by simp at ht
 | _ :: _,[],_,j,t,d,_,hd=>by simp at hd
 | t0 :: ts,d0 :: ds,h,j,t,d,ht,hd=>by
  simp only[DataW.weightsEach,List.mem_append]at h;cases j with
  | zero =>
   simp at ht hd;subst ht hd;exact λn hn=>h n (.inl hn)
  | succ j=>exact j3j ts ds (λn hn=>h n (.inr hn)) j t d (by simpa using ht) (by simpa using hd)
theorem j88 {P:Program} {e:TypeId}:∀ (ds:List (DataW H)),(∀ n∈DataW.weightsAll P e ds,n≤140737488351232)→∀ d∈ds,j1x P e d
 | [],_,d,hd=>by simp at hd
 | d0 :: ds,h,d,hd=>by
  simp only[DataW.weightsAll,List.mem_append]at h;rcases List.mem_cons.1 hd with rfl|hd
  ·exact λn hn=>h n (.inl hn)
  ·exact j88 ds (λn hn=>h n (.inr hn)) d hd
theorem jEn {P:Program} {t:TypeId} {fs:Array Field} {ds:List (DataW H)} (u:P.underlying t=some (.struct fs)) (h:j1x P t (.agg ds)):∀ (j:Nat) (f:Field) (d:DataW H),fs[j]?=some f→ds[j]?=some d→j1x P f.type d:=by
 intro j f d hf hd
 have h':∀ n∈DataW.weightsEach P (fs.toList.map (·.type)) ds,n≤140737488351232:=by
  intro n hn;refine h n ?_;simp only[DataW.weights,u];exact hn
 exact j3j _ _ h' j f.type d (by rw[List.getElem?_map,Array.getElem?_toList,hf];rfl) hd
theorem qm {P:Program} {e:TypeId} {fs:Array Field} {n:Nat} {cs:List Value} {x:DataW H × List MemPlace} (he:P.underlying e=some (.struct fs)) (h:DataW.trod enc P w base spare held n e cs=some x) (hL:j1x P e x.1)
  {j:Nat} {f:Field} (hj:fs[j]?=some f) (ho:f.offset=j) (hc:P.cellsOf f.type=1) (hjl:j<cs.length):∃ k y,DataW.trod enc P w base spare held k f.type [cs[j]]=some y∧j1x P f.type y.1:=by
 obtain ⟨xs,k,_,hx,_,hxl,hf⟩:=DataW.trod_struct he h;have h1:=hf j f hj;rw[ho,hc]at h1
 have e1:(cs.drop j).take 1=[cs[j]]:=by
  rw[List.drop_eq_getElem_cons hjl]
  rfl
 rw[e1]at h1;have hjx:j<xs.length:=by rw[hxl];exact (Array.getElem?_eq_some_iff.1 hj).1
 rw[List.getElem?_eq_getElem hjx]at h1;rw[hx]at hL;exact ⟨_,_,h1,jEn he hL j f _ hj (by rw[List.getElem?_map,List.getElem?_eq_getElem hjx];rfl)⟩
theorem xC {s:ByteArray} {t:TypeId} {P:Program} (h:j1x (H:=H) P t (.lit (.string s.data.toList))):s.size≤140737488351232:=by
 have:=h s.data.toList.length (by simp[DataW.weights])
 simpa using this
theorem j2e {P:Program} {t e:TypeId} {fuel:Nat} {a:Option Addr} {len cap:Nat} {x:DataW H × List MemPlace} (ht:P.underlying t=some (.slice e)) (hb:1≤P.bytesOf e) (h:DataW.trod enc P w base spare held fuel t [.slice a len cap]=some x) (hL:j1x P t x.1) :
  len≤140737488351232∧∀ i,i<len→∃ ad cs' n y,a=some ad∧w.cells? base (ad.add (i*P.cellsOf e)) (P.cellsOf e)=some cs'∧DataW.trod enc P w base spare held n e cs'=some y∧j1x P e y.1:=by
 rcases open_slice ht h with ⟨h0,_⟩|⟨ad,len',cap',m,n,D,Pl,h0,hbb,hl,hm,hmm,rfl,hx⟩
 ·simp at h0
  obtain ⟨_,rfl,_⟩:=h0;exact ⟨by omega,λi hi=>by omega⟩
 ·simp at h0
  obtain ⟨rfl,rfl,rfl⟩:=h0;have hlm:len≤m:=by rw[hmm];split<;>omega
  have hw:∀ n∈(((List.range len).map D).length+((List.range (m - len)).map λj=>D (len+j)).length)*P.bytesOf e :: (DataW.weightsAll P e ((List.range len).map D)++DataW.weightsAll P e ((List.range (m - len)).map λj=>D (len+j))),n≤140737488351232:=by
   intro n hn;refine hL n ?_;simp only[DataW.weights,ht];exact hn
  have h1:=hw _ (List.mem_cons_self ..);simp only[List.length_map,List.length_range]at h1;have h2:len+(m - len)≤(len+(m - len))*P.bytesOf e:=Nat.le_mul_of_pos_right _ hb;refine ⟨by omega,λi hi=>?_⟩;obtain ⟨cs',hc1,hc2⟩:=hx i (by omega);refine ⟨ad,cs',n,_,rfl,hc1,hc2,?_⟩;exact j88 _ (λn hn=>hw n (List.mem_cons_of_mem _ (List.mem_append_left _ hn))) _ (List.mem_map.2 ⟨i,List.mem_range.2 hi,rfl⟩)
theorem j5b {fuel:Nat} {a:Option Addr} {len cap:Nat} {L:List Pr} {x:DataW H × List MemPlace} (h:DataW.trod enc Tryz.prog w base spare held fuel 23 [.slice a len cap]=some x) (hI:j5o w a len cap L) (hL:j1x Tryz.prog 23 x.1) :
  L.length≤140737488351232∧∀ p∈L,p.a.size≤140737488351232∧p.b.size≤140737488351232:=by
 obtain ⟨h1,h2⟩:=j2e Tryz.underlying23 (by decide +kernel) h hL;obtain ⟨hlen,hrow,_,_,_,_⟩:=hI;refine ⟨by omega,λp hp=>?_⟩;obtain ⟨i,hi,rfl⟩:=List.getElem_of_mem hp;obtain ⟨ad,cs',n,y,rfl,hc,ht,hy⟩:=h2 i (by omega);have ce:Tryz.prog.cellsOf 92=4:=by kernel_rfl
 rw[ce]at hc;obtain ⟨_,hcl,hcell⟩:=World.cells?_some hc;obtain ⟨b,off,hab,_,_,_,q2,q3⟩:=hrow.prop hi;obtain rfl:=Option.some.inj hab;obtain ⟨k2,y2,t2,w2⟩:=qm (j:=2) Tryz.underlying92 ht hy rfl rfl (by kernel_rfl) (by omega);obtain ⟨k3,y3,t3,w3⟩:=qm (j:=3) Tryz.underlying92 ht hy rfl rfl (by kernel_rfl) (by omega);obtain ⟨s2,e2,f2,_⟩:=DataW.trod_string Tryz.underlying9 t2;obtain ⟨s3,e3,f3,_⟩:=DataW.trod_string Tryz.underlying9 t3;have c2:=hcell 2 (by omega);have c3:=hcell 3 (by omega);rw[Addr.add_lit,Addr.add_lit]at c2 c3;rw[q2,List.getElem?_eq_getElem (by omega),List.singleton_inj.1 e2]at c2;rw[q3,List.getElem?_eq_getElem (by omega),List.singleton_inj.1 e3]at c3;simp only[Option.some.injEq,Value.string.injEq]at c2 c3;rw[c2,c3];rw[f2]at w2;rw[f3]at w3;exact ⟨xC w2,xC w3⟩
theorem jAs {fuel:Nat} {a:Option Addr} {len cap:Nat} {L:List Fi} {x:DataW H × List MemPlace} (h:DataW.trod enc Tryz.prog w base spare held fuel 24 [.slice a len cap]=some x) (hI:j8s w a len cap L) (hL:j1x Tryz.prog 24 x.1) :
  L.length≤140737488351232∧∀ p∈L,p.text.size≤140737488351232:=by
 obtain ⟨h1,h2⟩:=j2e Tryz.underlying24 (by decide +kernel) h hL;obtain ⟨hlen,hrow,_,_,_,_⟩:=hI;refine ⟨by omega,λp hp=>?_⟩;obtain ⟨i,hi,rfl⟩:=List.getElem_of_mem hp;obtain ⟨ad,cs',n,y,rfl,hc,ht,hy⟩:=h2 i (by omega);have ce:Tryz.prog.cellsOf 97=2:=by kernel_rfl
 rw[ce]at hc;obtain ⟨_,hcl,hcell⟩:=World.cells?_some hc;obtain ⟨b,off,hab,_,q0,_⟩:=hrow.filt hi;obtain rfl:=Option.some.inj hab;obtain ⟨k0,y0,t0,w0⟩:=qm (j:=0) Tryz.underlying97 ht hy rfl rfl (by kernel_rfl) (by omega);obtain ⟨s0,e0,f0,_⟩:=DataW.trod_string Tryz.underlying9 t0;have c0:=hcell 0 (by omega);rw[Addr.add_lit,Addr.add_lit]at c0;rw[Nat.add_zero,q0,List.getElem?_eq_getElem (by omega),List.singleton_inj.1 e0]at c0;simp only[Option.some.injEq,Value.string.injEq]at c0;rw[c0];rw[f0]at w0;exact xC w0
theorem jHl {p:Pk} {s:Sl} {d:DataW H} {pl:List MemPlace} (h:DataW.Trod enc Tryz.prog w base (λ_=>true) held 27 (Pk.val p s) d pl) (hI:IsPk w p s) (hL:j1x Tryz.prog 27 d):Reach p:=by
 have u:=Tryz.underlying27;obtain ⟨fuel,hf⟩:=h;simp only[Pk.val,Pk.cells,Value.cells]at hf;obtain ⟨k7,y7,t7,w7⟩:=qm (j:=7) u hf hL rfl rfl (by kernel_rfl) (by simp);simp only[List.getElem_cons_succ,List.getElem_cons_zero]at t7;obtain ⟨s7,e7,f7,_⟩:=DataW.trod_string Tryz.underlying9 t7
 have r7:p.client.size≤140737488351232:=by
  have:=List.singleton_inj.1 e7
  simp only[Value.string.injEq]at this;rw[this];rw[f7]at w7;exact xC w7
 obtain ⟨k13,y13,t13,w13⟩:=qm (j:=13) u hf hL rfl rfl (by kernel_rfl) (by simp);simp only[List.getElem_cons_succ,List.getElem_cons_zero]at t13;have r13:=j5b t13 hI.hw w13;obtain ⟨k14,y14,t14,w14⟩:=qm (j:=14) u hf hL rfl rfl (by kernel_rfl) (by simp);simp only[List.getElem_cons_succ,List.getElem_cons_zero]at t14;obtain ⟨s14,e14,f14,_⟩:=DataW.trod_string Tryz.underlying9 t14
 have r14:p.willTopic.size≤140737488351232:=by
  have:=List.singleton_inj.1 e14
  simp only[Value.string.injEq]at this;rw[this];rw[f14]at w14;exact xC w14
 obtain ⟨k15,y15,t15,w15⟩:=qm (j:=15) u hf hL rfl rfl (by kernel_rfl) (by simp);simp only[List.getElem_cons_succ,List.getElem_cons_zero]at t15;obtain ⟨s15,e15,f15,_⟩:=DataW.trod_string Tryz.underlying9 t15
 have r15:p.willLoad.size≤140737488351232:=by
  have:=List.singleton_inj.1 e15
  simp only[Value.string.injEq]at this;rw[this];rw[f15]at w15;exact xC w15
 obtain ⟨k16,y16,t16,w16⟩:=qm (j:=16) u hf hL rfl rfl (by kernel_rfl) (by simp);simp only[List.getElem_cons_succ,List.getElem_cons_zero]at t16;obtain ⟨s16,e16,f16,_⟩:=DataW.trod_string Tryz.underlying9 t16
 have r16:p.user.size≤140737488351232:=by
  have:=List.singleton_inj.1 e16
  simp only[Value.string.injEq]at this;rw[this];rw[f16]at w16;exact xC w16
 obtain ⟨k17,y17,t17,w17⟩:=qm (j:=17) u hf hL rfl rfl (by kernel_rfl) (by simp);simp only[List.getElem_cons_succ,List.getElem_cons_zero]at t17;obtain ⟨s17,e17,f17,_⟩:=DataW.trod_string Tryz.underlying9 t17
 have r17:p.pass.size≤140737488351232:=by
  have:=List.singleton_inj.1 e17
  simp only[Value.string.injEq]at this;rw[this];rw[f17]at w17;exact xC w17
 obtain ⟨k20,y20,t20,w20⟩:=qm (j:=20) u hf hL rfl rfl (by kernel_rfl) (by simp);simp only[List.getElem_cons_succ,List.getElem_cons_zero]at t20;obtain ⟨s20,e20,f20,_⟩:=DataW.trod_string Tryz.underlying9 t20
 have r20:p.topic.size≤140737488351232:=by
  have:=List.singleton_inj.1 e20
  simp only[Value.string.injEq]at this;rw[this];rw[f20]at w20;exact xC w20
 obtain ⟨k21,y21,t21,w21⟩:=qm (j:=21) u hf hL rfl rfl (by kernel_rfl) (by simp);simp only[List.getElem_cons_succ,List.getElem_cons_zero]at t21;obtain ⟨s21,e21,f21,_⟩:=DataW.trod_string Tryz.underlying9 t21
 have r21:p.load.size≤140737488351232:=by
  have:=List.singleton_inj.1 e21
  simp only[Value.string.injEq]at this;rw[this];rw[f21]at w21;exact xC w21
 obtain ⟨k22,y22,t22,w22⟩:=qm (j:=22) u hf hL rfl rfl (by kernel_rfl) (by simp);simp only[List.getElem_cons_succ,List.getElem_cons_zero]at t22;have r22:=jAs t22 hI.hf w22;obtain ⟨k23,y23,t23,w23⟩:=qm (j:=23) u hf hL rfl rfl (by kernel_rfl) (by simp);simp only[List.getElem_cons_succ,List.getElem_cons_zero]at t23;have r23:=(j2e Tryz.underlying25 (by decide +kernel) t23 w23).1;obtain ⟨k24,y24,t24,w24⟩:=qm (j:=24) u hf hL rfl rfl (by kernel_rfl) (by simp);simp only[List.getElem_cons_succ,List.getElem_cons_zero]at t24;have r24:=j5b t24 hI.hp w24;exact ⟨r7,r14,r15,r16,r17,r20,r21,r13.1,r22.1,r23,r24.1,r22.2,r24.2,r13.2⟩
end
end Go.Proofs.YtdeecgmihfakgaaGreatDoor
