import Derived.Test.YtkochkhfbhjicaaGreatDoorBase
import Derived.Deep.RegionHeld3
import Derived.Laws.Tables
import Derived.Test.YtkochkhfbhjicaaGreatDoorYFC
import Derived.Test.YtkochkhfbhjicaaGreatDoorChecked
import Derived.Test.YtkochkhfbhjicaaGreatDoorYF9
import Derived.ChangeSlices
import Derived.OpenShut
import Derived.ShutString
namespace Go.Proofs.YtkochkhfbhjicaaGreatDoor
open Go.RowKit
set_option linter.unusedVariables false
set_option linter.unusedSimpArgs false
section
variable {P:Program} {ops:Array Oper} {Q:Exit→Act→World→Prop} {a:Act} {w:World} {rest:List Oper} {o:Oper} {N n:Nat} {ρ:Operand→Value}
theorem j2t (a b:ByteArray):a.toList=b.toList↔a=b:=by
 constructor
 ·intro h
  have e:a.data.toList=b.data.toList:=by rw[← ByteArray.toList_eq,← ByteArray.toList_eq];exact h
  exact ByteArray.ext (Array.toList_inj.1 e)
 ·intro h;rw[h]
theorem jOm {i:Nat} {v:Value} (h:a.tmps[i]?=some v):a.eval (.tmp i)=v:=by simp[Act.eval,Array.getD_eq_getD_getElem?,h]
theorem jD {v:Value}:a.eval (.const v)=v:=rfl
theorem jM1 {v:Value} (z:a.tmps.size=N) (hn:n<N):(a.put (some n) v).tmps.size=N∧(a.put (some n) v).tmps[n]?=some v∧(∀ i,i≠n→(a.put (some n) v).tmps[i]?=a.tmps[i]?)∧(a.put (some n) v).defers=a.defers:=by
 refine ⟨by simp[Act.put,z],by simp[Act.put,z,hn],λi hi=>?_,rfl⟩;simp[Act.put,Array.getElem?_setIfInBounds,Ne.symm hi]
theorem j2u {y:Nat→Option Bool} (hg:o.guard=none):Region.wanted o y=true:=by simp[Region.wanted,hg]
theorem jKz {j t:Nat} {b want:Bool} (hg:o.guard=some (j,want)) (hj:(ops[j]?).bind (·.dst)=some t) (f:a.tmps[t]?=some (.bool b)):Region.wanted o (yielded ops a.tmps)=(b == want):=by
 simp[Region.wanted,hg,yielded,hj,f]
theorem jOo {j t:Nat} {want:Bool} (hg:o.guard=some (j,want)) (hj:(ops[j]?).bind (·.dst)=some t) (f:a.tmps[t]?=some undef):Region.wanted o (yielded ops a.tmps)=false:=by
 simp[Region.wanted,hg,yielded,hj,f,undef]
theorem vK {i:Nat} {u v:Value} (f:a.tmps[i]?=some u) (h:u=v):a.tmps[i]?=some v:=h▸f
theorem jOn {w':World} (hw:Region.wanted o (yielded ops a.tmps)=true) (hd:o.dst=none) (h:(execOp a.eval o).run P w=.ok .skip w') (k:wpList P ops Q rest a w'):wpList P ops Q (o :: rest) a w:=by
 unfold wpList;rw[if_pos hw];left;unfold Oper.wp;rw[h];show wpList P ops Q rest (a.put o.dst undef) w';rw[hd];exact k
section
variable {md:Region.Mode} {S:World→Prop} {fuel:Nat} {listed:Array Bool}
theorem j8r {i:Nat} (hi:ops[i]?=some o) (hr:Region.ready md ops listed=[i]) (hw:Region.wanted o (yielded ops a.tmps)=true)
  (h:o.wp P a w (λa' w'=>S w'∧wpAnyH P md ops Q S fuel (listed.setIfInBounds i true) a' w') Q):wpAnyH P md ops Q S (fuel+1) listed a w:=by
 refine wpAnyH_all hr (by simp) λj hj=>?_
 obtain rfl:=List.mem_singleton.1 hj;unfold wpOp;simp only[hi];rw[if_pos hw];exact .inl h
end
theorem xA {w:World} {x:Operand} {v:Value} (ho:o.op=.move x) (hx:ρ x=v):(execOp ρ o).run P w=.ok (.value v) w:=by simp[execOp,ho,hx]
theorem xu {w:World} {x:Operand} {v:Value} (ho:o.op=.assign x) (hx:ρ x=v):(execOp ρ o).run P w=.ok (.value v) w:=by simp[execOp,ho,hx]
theorem j5k {w:World} {c x y:Operand} {v:Value} (ho:o.op=.pick c x y) (hc:ρ c=.bool true) (hx:ρ x=v):(execOp ρ o).run P w=.ok (.value v) w:=by simp[execOp,ho,hc,hx,asBool]
theorem j5j {w:World} {c x y:Operand} {v:Value} (ho:o.op=.pick c x y) (hc:ρ c=.bool false) (hx:ρ y=v):(execOp ρ o).run P w=.ok (.value v) w:=by simp[execOp,ho,hc,hx,asBool]
theorem qM {s:Sem Value} {v:Value} {w w':World} (h:s.run P w=.ok v w'):(do pure (Next.value (← s)):Sem Next).run P w=.ok (.value v) w':=by
 simp[h,Result.andThen]
theorem jJ5 {s:Sem Unit} {w w':World} (h:s.run P w=.ok () w'):(do s;pure Next.skip:Sem Next).run P w=.ok .skip w':=by
 simp[h,Result.andThen]
theorem jA {t:TypeId} {x:Operand} {p v:Value} {w:World} (ho:o.op=.load t x) (hx:ρ x=p) (h:(Instr.loadAt t p).run P w=.ok v w):(execOp ρ o).run P w=.ok (.value v) w:=by
 simp only[execOp,ho,hx];exact qM h
theorem jJ {t:TypeId} {x y:Operand} {p v:Value} {w w':World} (ho:o.op=.store t x y) (hx:ρ x=p) (hy:ρ y=v) (h:(Instr.storeAt t p v).run P w=.ok () w'):(execOp ρ o).run P w=.ok .skip w':=by
 simp only[execOp,ho,hx,hy];exact jJ5 h
theorem qx {t:TypeId} {x:Operand} {p v:Value} {i:Nat} {w:World} (ho:o.op=.fieldAddr t x i) (hx:ρ x=p) (h:(Instr.fieldAt t p i).run P w=.ok v w):(execOp ρ o).run P w=.ok (.value v) w:=by
 simp only[execOp,ho,hx];exact qM h
theorem jF {op:BinOp} {t u:TypeId} {x y:Operand} {p q v:Value} {w:World} (ho:o.op=.binOp op t x y u) (hx:ρ x=p) (hy:ρ y=q) (h:(do eqGuard op t x y p q;binOp op t p q:Sem Value).run P w=.ok v w):(execOp ρ o).run P w=.ok (.value v) w:=by
 simp only[execOp,ho,hx,hy];exact qM h
theorem jN6 {op:UnOp} {t:TypeId} {x:Operand} {p v:Value} {w:World} (ho:o.op=.unOp op t x) (hx:ρ x=p) (h:(Op.unary op p).run P w=.ok v w):(execOp ρ o).run P w=.ok (.value v) w:=by
 simp only[execOp,ho,hx];exact qM h
theorem vZ {s t:TypeId} {x:Operand} {p v:Value} {w w':World} (ho:o.op=.convert s t x) (hx:ρ x=p) (h:(convert s t p).run P w=.ok v w'):(execOp ρ o).run P w=.ok (.value v) w':=by
 simp only[execOp,ho,hx];exact qM h
theorem qJ {t:TypeId} {x y:Operand} {p q v:Value} {w:World} (ho:o.op=.indexAddr t x y) (hx:ρ x=p) (hy:ρ y=q) (h:(Instr.indexAt t p q).run P w=.ok v w):(execOp ρ o).run P w=.ok (.value v) w:=by
 simp only[execOp,ho,hx,hy];exact qM h
theorem j27 {w:World} {x:Operand} {l:Array Value} {v:Value} {i:Nat} (ho:o.op=.extract x i) (hx:ρ x=.tuple l) (hv:l[i]?=some v):(execOp ρ o).run P w=.ok (.value v) w:=by
 simp[execOp,ho,hx,Instr.extract,hv]
theorem jq {t:TypeId} {v:Value} {w w':World} (ho:o.op=.alloc t) (h:(Instr.alloc t true (.tuple #[])).run P w=.ok v w'):(execOp ρ o).run P w=.ok (.value v) w':=by
 simp only[execOp,ho];exact qM h
theorem qW {t:TypeId} {x:Operand} {p v:Value} {w w':World} (ho:o.op=.box t x) (hx:ρ x=p) (h:(Instr.box t p).run P w=.ok v w'):(execOp ρ o).run P w=.ok (.value v) w':=by
 simp only[execOp,ho,hx];exact qM h
theorem j5i {w:World} {t:TypeId} {x:Operand} {b:Bool} (ho:o.op=.unOp .not t x) (hx:ρ x=.bool b):(execOp ρ o).run P w=.ok (.value (.bool !b)) w:=by
 refine jN6 ho hx ?_;simp[Op.unary]
theorem zv {t:TypeId} {x:Operand} {lo hi mx:Option Operand} {p v:Value} {l h m:Option Value} {w:World} (ho:o.op=.slice t x lo hi mx) (hx:ρ x=p) (hl:lo.map ρ=l) (hh:hi.map ρ=h) (hm:mx.map ρ=m) (hr:(Instr.sliceAt t p l h m).run P w=.ok v w):(execOp ρ o).run P w=.ok (.value v) w:=by
 simp only[execOp,ho,hx,hl,hh,hm];exact qM hr
theorem j8k {t:TypeId} {x y:Operand} {p q v:Value} {w w':World} (ho:o.op=.makeSlice t x y) (hx:ρ x=p) (hy:ρ y=q) (h:(Instr.makeSlice t p q).run P w=.ok v w'):(execOp ρ o).run P w=.ok (.value v) w':=by
 simp only[execOp,ho,hx,hy];exact qM h
theorem jh {w:World} {t:TypeId} {l:List (Nat × Operand)} {ps:List (Nat × Value)} {c:Array Value} (ho:o.op=.build t l.toArray) (hl:(l.map λx=>(x.1,ρ x.2))=ps) (h:P.built t ps=some c):(execOp ρ o).run P w=.ok (.value (.agg c)) w:=by
 simp only[execOp,ho];refine qM (run_build w _ _ _ ?_);simp only[List.map_toArray];rw[← h,← hl]
theorem qX {t:TypeId} (v:Value) (w:World):(Instr.box t v).run P w=.ok (.pointer (some ⟨w.heap.size,0,none⟩)) (w.alloc (.cells v.cells t)):=by rfl
theorem jk {T:TypeId} {b i:Nat} {v:Value} {w:World} (u:(isAgg T).run P w=.ok false w) (h:w.cell? ⟨b,i,none⟩=some v):(Instr.loadAt T (.pointer (some ⟨b,i,none⟩))).run P w=.ok v w:=by
 have e:(Instr.loadAt T (.pointer (some ⟨b,i,none⟩))).run P w=(loadVar T ⟨b,i,none⟩).run P w:=by rfl
 rw[e];unfold loadVar;simp only[Sem.run_bind,u,Result.andThen];simp[go_sem,h]
theorem jE {T k:Nat} {b:Nat} {w:World} (c:Array Value) (hc:c.size=k) (e1:(isAgg T).run P w=.ok true w) (e2:(Go.sizeOf T).run P w=.ok k w) (h:∀ i,w.cell? ⟨b,i,none⟩=c[i]?) :
  (Instr.loadAt T (.pointer (some ⟨b,0,none⟩))).run P w=.ok (.agg c) w:=by
 have e3:=run_loadCells (P:=P) (w:=w) ⟨b,0,none⟩ k (λj=>c.getD j undef) (λj hj=>by
  have e:(⟨b,0,none⟩:Addr).add j=⟨b,j,none⟩:=by simp[Addr.add];intro h;exact h.symm
  rw[e,h j];simp[Array.getD_eq_getD_getElem?,hc,hj])
 have e4:((List.range k).map λj=>c.getD j undef).toArray=c:=by
  apply Array.ext
  ·simp[hc]
  ·intro i h1 h2
   simp[Array.getD_eq_getD_getElem?,h2]
 rw[e4]at e3;have e6:loadCells (⟨b,0,none⟩:Addr) k=loadCellsFrom ⟨b,0,none⟩ 0 k #[]:=rfl;rw[e6]at e3;simp[Instr.loadAt,go_sem,e1,e2,e3]
theorem jBg {T t b i:Nat} {c c':Array Value} {v:Value} (w:World) (hB:Blk w b t c) (hs:(Go.sizeOf T).run P w=.ok 1 w) (h1:v.oneCell'=true) (hi:i<c.size) (e:c.setIfInBounds i v=c') :
  ∃ w',(Instr.storeAt T (.pointer (some ⟨b,i,none⟩)) v).run P w=.ok () w'∧Blk w' b t c'∧Kept (One b) w w':=by
 refine ⟨w.setCell ⟨b,i,none⟩ v,?_,e▸hB.set_ i v,Kept.setCell (S:=One b) (p:=⟨b,i,none⟩) (Kept.refl _ w) (.inr rfl) v⟩;have e5:(Instr.storeAt T (.pointer (some ⟨b,i,none⟩)) v).run P w=(storeVar T ⟨b,i,none⟩ v).run P w:=by rfl
 have hc:w.cell? ⟨b,i,none⟩=some c[i]:=by rw[hB.cell i];simp[hi]
 have hf:=hB.frozen i;have hcl:v.cells=#[v]:=by cases v<;>first|rfl|(simp[Value.oneCell']at h1)
 have e0:(⟨b,i,none⟩:Addr).add 0=⟨b,i,none⟩:=rfl;have e6:=run_store P w ⟨b,i,none⟩ v .plain h1;rw[hc,hf]at e6;rw[e5];unfold storeVar;simp only[Sem.run_bind,hs,Result.andThen,hcl];simp[storeCells,e0,e6,Result.andThen]
theorem jC {S b:Nat} {t:TypeId} {old c:Array Value} (w:World) (hB:Blk w b t old) (hs:(Go.sizeOf S).run P w=.ok c.size w) (he:old.size=c.size) (h1:c.all (·.oneCell')=true) :
  ∃ w',(Instr.storeAt S (.pointer (some ⟨b,0,none⟩)) (.agg c)).run P w=.ok () w'∧Blk w' b t c∧Kept (One b) w w':=by
 have hi:(P.info? S).map (·.size)=some c.size:=by
  unfold Go.sizeOf typeInfo at hs;simp only[Sem.run_bind]at hs;cases hI:P.info? S with
  | none=>simp[hI,go_sem,Result.andThen]at hs
  | some i =>
   simp[hI,go_sem,Result.andThen]at hs;simp[hs]
 refine ⟨w.setRow b c,?_,?_,?_⟩
 ·have e5:(Instr.storeAt S (.pointer (some ⟨b,0,none⟩)) (.agg c)).run P w=(storeVar S ⟨b,0,none⟩ (.agg c)).run P w:=by rfl
  rw[e5,run_storeVar_row (P:=P) w b t S old c hB hi he h1]
 ·unfold Blk at hB ⊢
  show (w.heap.modify b _)[b]?=_;rw[Array.getElem?_modify,if_pos rfl,hB]
  rfl
 ·refine ⟨rfl,rfl,rfl,by simp[World.setRow],λk hk hn=>?_⟩
  have:b≠k:=λe=>hn e.symm
  simp[World.setRow,Array.getElem?_modify,this]
theorem qK {t e ty:TypeId} {s:Option Addr} {m c:Nat} (u:P.underlying t=some (.slice e)) {w:World}:(Builtin.len_ #[t] ty #[.slice s m c]).run P w=.ok (.int .i64 m) w:=by
 have e':P.elem t=e:=by simp[Program.elem,u]
 rw[run_len_slice w t ty s m c (by rw[e'];exact u)]
 rfl
theorem vk {t ty:TypeId} {s:ByteArray} (u:P.underlying t=some .string) {w:World}:(Builtin.len_ #[t] ty #[.string s]).run P w=.ok (.int .i64 s.size) w:=by
 rw[run_len_string w t ty s u]
 rfl
theorem vc {t e b off m c k:Nat} {i:Nat} {K:IntKind} {w:World} (u:P.underlying t=some (.slice e)) (hs:(Go.sizeOf e).run P w=.ok k w) (hi:i<m):(Instr.indexAt t (.slice (some ⟨b,off,none⟩) m c) (.int K i)).run P w=.ok (.pointer (some ⟨b,off+i*k,none⟩)) w:=by
 have e':P.elem t=e:=by simp[Program.elem,u]
 rw[run_indexAt_slice w t _ _ _ _ _ (by rw[e'];exact u),if_pos ⟨by omega,by omega⟩,e',hs];simp[Result.andThen,Addr.add_lit]
theorem jK {n:Int} (h:-9223372036854775808≤n) (h2:n≤9223372036854775807):IntKind.i64.wrap n=n:=by rw[IntKind.wrap_i64];omega
theorem jn {n:Int} (h:0≤n) (h2:n≤255):IntKind.u8.wrap n=n:=by rw[IntKind.wrap_u8];omega
theorem jA4 {n:Int} (h:0≤n) (h2:n≤4294967295):IntKind.u32.wrap n=n:=by rw[IntKind.wrap_u32];omega
theorem jDp {m n:Nat} (hm:m<256) (hn:n<256):Op.intBits .and .u8 (m:Int) (n:Int)=pure (.int .u8 ((m &&& n:Nat):Int)):=by
 have h1:(m &&& n)<256:=Nat.lt_of_le_of_lt Nat.and_le_left hm;have e:(BitVec.ofInt 8 (m:Int) &&& BitVec.ofInt 8 (n:Int)).toNat=m &&& n:=by simp[BitVec.toNat_and,Nat.mod_eq_of_lt hm,Nat.mod_eq_of_lt hn]
 show (pure (.int .u8 (IntKind.u8.wrap ((BitVec.ofInt 8 (m:Int) &&& BitVec.ofInt 8 (n:Int)).toNat:Int))):Sem Value)=_;rw[e,jn (by omega) (by omega)]
theorem j8d {m n:Nat} (hm:m<256) (hn:n<256):Op.intBits .andNot .u8 (m:Int) (n:Int)=pure (.int .u8 ((m &&& (255 - n):Nat):Int)):=by
 have h1:(m &&& (255 - n))<256:=Nat.lt_of_le_of_lt Nat.and_le_left hm;have e:(BitVec.ofInt 8 (m:Int) &&& ~~~BitVec.ofInt 8 (n:Int)).toNat=m &&& (255 - n):=by simp[BitVec.toNat_and,BitVec.toNat_not,Nat.mod_eq_of_lt hm,Nat.mod_eq_of_lt hn]
 show (pure (.int .u8 (IntKind.u8.wrap ((BitVec.ofInt 8 (m:Int) &&& ~~~BitVec.ofInt 8 (n:Int)).toNat:Int))):Sem Value)=_;rw[e,jn (by omega) (by omega)]
theorem j4u {t:TypeId} {m n:Nat} {x y:Operand} {w:World} (hm:m<256) (hn:n<256):(do eqGuard .and t x y (.int .u8 m) (.int .u8 n);binOp .and t (.int .u8 m) (.int .u8 n):Sem Value).run P w=.ok (.int .u8 ((m &&& n:Nat):Int)) w:=by
 simp[eqGuard,binOp,jDp hm hn]
theorem jBy {t:TypeId} {m n:Nat} {x y:Operand} {w:World} (hm:m<256) (hn:n<256):(do eqGuard .andNot t x y (.int .u8 m) (.int .u8 n);binOp .andNot t (.int .u8 m) (.int .u8 n):Sem Value).run P w=.ok (.int .u8 ((m &&& (255 - n):Nat):Int)) w:=by
 simp[eqGuard,binOp,j8d hm hn]
theorem j2s {T b o:Nat} {w:World} {u v:Value} (e1:(isAgg T).run P w=.ok true w) (e2:(Go.sizeOf T).run P w=.ok 2 w) (h0:w.cell? ⟨b,o,none⟩=some u) (h1:w.cell? ⟨b,o+1,none⟩=some v) :
  (Instr.loadAt T (.pointer (some ⟨b,o,none⟩))).run P w=.ok (.agg #[u,v]) w:=by
 have e3:=run_loadCells_list (P:=P) (w:=w) ⟨b,o,none⟩ [u,v] (λj z hz=>by
  rw[Addr.add_lit]
  match j with
  | 0=>simp at hz;subst hz;exact h0
  | 1=>simp at hz;subst hz;exact h1
  | j+2=>simp at hz)
 have e5:(Instr.loadAt T (.pointer (some ⟨b,o,none⟩))).run P w=(loadVar T ⟨b,o,none⟩).run P w:=by rfl
 rw[e5];unfold loadVar;simp only[Sem.run_bind,e1,e2,Result.andThen,if_true];have e7:(loadCells (⟨b,o,none⟩:Addr) 2).run P w=.ok #[u,v] w:=e3;simp[e7,Result.andThen]
theorem jr {f : Nat} {fn : Func} (hf : P.funcs[f]? = some fn) (hn : (fn.name == "runtime.NumGoroutine") = false) (hb : fn.body.isNone = false) (args : Array Value) (w : World) : (callFunc f args).run P w = .ok (.enter f args) w := by
 have hn' : fn.name ≠ "runtime.NumGoroutine" := by simpa using hn
 have hb':fn.body≠none:=by intro h;rw[h]at hb;simp at hb
 simp[callFunc,hf,hn',hb',go_sem,Sem.run]
theorem j6 {f:Nat} {l:List Operand} {ats:Array TypeId} {vs:List Value} {w:World} (ho:o.op=.call {callee:=.value (.func f),args:=l.toArray,argTypes:=ats}) (hv:ρ (.func f)=.func (.func f) #[] #[]) (hl:l.map ρ=vs)
  (he:∀ args w,(callFunc f args).run P w=.ok (.enter f args) w):(execOp ρ o).run P w=.ok (.enter f vs.toArray) w:=by
 subst hl;simp[execOp,ho,resolve,invoke,go_sem,hv,he]
theorem ji {b:Builtin} {l:List Operand} {ats:Array TypeId} {vs:List Value} {w:World} {r:Result Next} (ho:o.op=.call {callee:=.builtin b,args:=l.toArray,argTypes:=ats}) (hl:l.map ρ=vs)
  (h:∀ cs,(builtin b ats o.type cs vs.toArray).run P w=r):(execOp ρ o).run P w=r:=by
 subst hl;simp only[execOp,ho,resolve,List.map_toArray];exact h _
theorem qH {l:List Operand} {ats:Array TypeId} {vs:List Value} {w:World} {v:Value} (ho:o.op=.call {callee:=.builtin .len,args:=l.toArray,argTypes:=ats}) (hl:l.map ρ=vs)
  (h:(Builtin.len_ ats o.type vs.toArray).run P w=.ok v w):(execOp ρ o).run P w=.ok (.value v) w :=
 ji ho hl (λcs=>by simp only[builtin];exact qM h)
theorem j9:([]:List Operand).map ρ=[]:=rfl
theorem j0 {x:Operand} {l:List Operand} {v:Value} {vs:List Value} (hx:ρ x=v) (hl:l.map ρ=vs):(x :: l).map ρ=v :: vs:=by simp[hx,hl]
theorem qB:([]:List (Nat × Operand)).map (λx=>(x.1,ρ x.2))=[]:=rfl
theorem j4 {i:Nat} {x:Operand} {l:List (Nat × Operand)} {v:Value} {vs:List (Nat × Value)} (hx:ρ x=v) (hl:(l.map λx=>(x.1,ρ x.2))=vs):(((i,x) :: l).map λx=>(x.1,ρ x.2))=(i,v) :: vs:=by simp[hx,hl]
theorem jMd {w:World} {t:TypeId} {k:IntKind} {i j:Int} {x y:Operand}:(do eqGuard .lss t x y (.int k i) (.int k j);binOp .lss t (.int k i) (.int k j):Sem Value).run P w=.ok (.bool (decide (i<j))) w:=by simp[eqGuard,binOp,Op.intCmp]
theorem jMc {w:World} {t:TypeId} {k:IntKind} {i j:Int} {x y:Operand}:(do eqGuard .leq t x y (.int k i) (.int k j);binOp .leq t (.int k i) (.int k j):Sem Value).run P w=.ok (.bool (decide (i≤j))) w:=by simp[eqGuard,binOp,Op.intCmp]
theorem jMb {w:World} {t:TypeId} {k:IntKind} {i j:Int} {x y:Operand}:(do eqGuard .gtr t x y (.int k i) (.int k j);binOp .gtr t (.int k i) (.int k j):Sem Value).run P w=.ok (.bool (decide (j<i))) w:=by simp[eqGuard,binOp,Op.intCmp]
theorem jHb {w:World} {t:TypeId} {k:IntKind} {i j:Int} {x y:Operand}:(do eqGuard .geq t x y (.int k i) (.int k j);binOp .geq t (.int k i) (.int k j):Sem Value).run P w=.ok (.bool (decide (j≤i))) w:=by simp[eqGuard,binOp,Op.intCmp]
theorem jL {w:World} {t:TypeId} {k:IntKind} {i j:Int} {x y:Operand}:(do eqGuard .eql t x y (.int k i) (.int k j);binOp .eql t (.int k i) (.int k j):Sem Value).run P w=.ok (.bool (decide (i=j))) w:=by
 have e:(i == j)=decide (i=j):=by rw[Bool.eq_iff_iff];simp
 simp[eqGuard,binOp,Op.intCmp,e]
theorem jBz {w:World} {t:TypeId} {k:IntKind} {i j:Int} {x y:Operand}:(do eqGuard .neq t x y (.int k i) (.int k j);binOp .neq t (.int k i) (.int k j):Sem Value).run P w=.ok (.bool (!decide (i=j))) w:=by
 have e:(i != j) = !decide (i=j):=by rw[Bool.eq_iff_iff];simp
 simp[eqGuard,binOp,Op.intCmp,e]
theorem vB {w:World} {t:TypeId} {k:IntKind} {i j:Nat} {x y:Operand}:(do eqGuard .lss t x y (.int k i) (.int k j);binOp .lss t (.int k i) (.int k j):Sem Value).run P w=.ok (.bool (decide (i<j))) w:=by
 rw[jMd];simp
theorem j94 {w:World} {t:TypeId} {k:IntKind} {i j:Nat} {x y:Operand}:(do eqGuard .leq t x y (.int k i) (.int k j);binOp .leq t (.int k i) (.int k j):Sem Value).run P w=.ok (.bool (decide (i≤j))) w:=by
 rw[jMc];simp
theorem j1v {w:World} {t:TypeId} {k:IntKind} {i j:Nat} {x y:Operand}:(do eqGuard .gtr t x y (.int k i) (.int k j);binOp .gtr t (.int k i) (.int k j):Sem Value).run P w=.ok (.bool (decide (j<i))) w:=by
 rw[jMb];simp
theorem jJx {w:World} {t:TypeId} {k:IntKind} {i j:Nat} {x y:Operand}:(do eqGuard .geq t x y (.int k i) (.int k j);binOp .geq t (.int k i) (.int k j):Sem Value).run P w=.ok (.bool (decide (j≤i))) w:=by
 rw[jHb];simp
theorem jx {w:World} {t:TypeId} {k:IntKind} {i j:Nat} {x y:Operand}:(do eqGuard .eql t x y (.int k i) (.int k j);binOp .eql t (.int k i) (.int k j):Sem Value).run P w=.ok (.bool (decide (i=j))) w:=by
 rw[jL];simp[Int.natCast_inj]
theorem vV {w:World} {t:TypeId} {k:IntKind} {i j:Nat} {x y:Operand}:(do eqGuard .neq t x y (.int k i) (.int k j);binOp .neq t (.int k i) (.int k j):Sem Value).run P w=.ok (.bool (!decide (i=j))) w:=by
 rw[jBz];simp[Int.natCast_inj]
theorem z8 {w:World} {t:TypeId} (u:P.underlying t=some .bool) {i j:Bool} {x y:Operand}:(do eqGuard .eql t x y (.bool i) (.bool j);binOp .eql t (.bool i) (.bool j):Sem Value).run P w=.ok (.bool (i == j)) w:=by
 cases i<;>cases j<;>go_simp
theorem j0y {w:World} {t:TypeId} (u:P.underlying t=some .bool) {i j:Bool} {x y:Operand}:(do eqGuard .neq t x y (.bool i) (.bool j);binOp .neq t (.bool i) (.bool j):Sem Value).run P w=.ok (.bool (!(i == j))) w:=by
 cases i<;>cases j<;>go_simp
theorem vJ {w:World} {t:TypeId} {i j:ByteArray} {x y:Operand}:(do eqGuard .eql t x y (.string i) (.string j);binOp .eql t (.string i) (.string j):Sem Value).run P w=.ok (.bool (decide (i=j))) w:=by
 have e:(i.toList == j.toList)=decide (i=j):=by rw[Bool.eq_iff_iff];simp[j2t]
 simp[eqGuard,binOp,Op.stringOp,e]
theorem j4w {w:World} {t:TypeId} {i j:ByteArray} {x y:Operand}:(do eqGuard .neq t x y (.string i) (.string j);binOp .neq t (.string i) (.string j):Sem Value).run P w=.ok (.bool (!decide (i=j))) w:=by
 have e:(i.toList == j.toList)=decide (i=j):=by rw[Bool.eq_iff_iff];simp[j2t]
 simp[eqGuard,binOp,Op.stringOp,e]
theorem jd {w:World} {t:TypeId} {k:IntKind} {i j c:Int} {x y:Operand} (h:k.wrap (i+j)=c):(do eqGuard .add t x y (.int k i) (.int k j);binOp .add t (.int k i) (.int k j):Sem Value).run P w=.ok (.int k c) w:=by subst h;simp[eqGuard,binOp,Op.intArith]
theorem jMf {w:World} {t:TypeId} {k:IntKind} {i j c:Int} {x y:Operand} (h:k.wrap (i - j)=c):(do eqGuard .sub t x y (.int k i) (.int k j);binOp .sub t (.int k i) (.int k j):Sem Value).run P w=.ok (.int k c) w:=by subst h;simp[eqGuard,binOp,Op.intArith]
theorem j3o {w:World} {t:TypeId} {k:IntKind} {i j c:Int} {x y:Operand} (h:k.wrap (i*j)=c):(do eqGuard .mul t x y (.int k i) (.int k j);binOp .mul t (.int k i) (.int k j):Sem Value).run P w=.ok (.int k c) w:=by subst h;simp[eqGuard,binOp,Op.intArith]
theorem jMe {w:World} {t:TypeId} {k:IntKind} {i j c:Int} {x y:Operand} (hj:j≠0) (h:k.wrap (i.tdiv j)=c):(do eqGuard .quo t x y (.int k i) (.int k j);binOp .quo t (.int k i) (.int k j):Sem Value).run P w=.ok (.int k c) w:=by subst h;simp[eqGuard,binOp,Op.intDiv,hj]
theorem j95 {w:World} {t:TypeId} {k:IntKind} {i j c:Int} {x y:Operand} (hj:j≠0) (h:i.tmod j=c):(do eqGuard .rem t x y (.int k i) (.int k j);binOp .rem t (.int k i) (.int k j):Sem Value).run P w=.ok (.int k c) w:=by subst h;simp[eqGuard,binOp,Op.intDiv,hj]
end
section
variable {P:Program} {Q:Exit→Act→World→Prop} {a:Act} {w:World}
theorem jB {id:Nat} {l:List Oper} (h:wpList P l.toArray Q l a w):(Code.region id l.toArray false).wp P Q a w:=wp_region_lit h
theorem sg {P:Program} {Q:Exit→Act→World→Prop} {a:Act} {w:World} {id:Nat} {l:List Oper} {y:Code} (h:∀ K':Act→World→Prop,(∀ a w,y.wp P Q a w→K' a w)→wpList P l.toArray (Exit.then K' Q) l a w):(Code.seq (Code.region id l.toArray false) y).wp P Q a w:=wp_seq_k λK' hK'=>jB (h K' hK')
theorem nn {P:Program} {ops:Array Oper} {Q:Exit→Act→World→Prop} {p:Prop} {a:Act} {w:World} (hK:p→Q .normal a w) (h:p):wpList P ops Q [] a w:=hK h
theorem jH (h:Q .ret a w):Code.ret.wp P Q a w:=wp_ret h
theorem jM2 {fn:Func} {t:Nat} {v:Value} (h:fn.results=#[.tmp t]) (f:a.tmps[t]?=some v):(results fn a.tmps).run P w=.ok v w:=by
 simp[results,h,Array.getD_eq_getD_getElem?,f,go_sem]
theorem jc {fn:Func} {t g:Nat} {T:TypeId} {v:Value} (h:fn.results=#[.cell t T]) (f:a.tmps[t]?=some (.pointer (some ⟨g,0,none⟩))) (hl:(Instr.loadAt T (.pointer (some ⟨g,0,none⟩))).run P w=.ok v w):(results fn a.tmps).run P w=.ok v w:=by
 have hl2:(loadVar T ⟨g,0,none⟩).run P w=.ok v w:=hl;unfold results;rw[h];have ha2:asAddr (a.tmps.getD t undef)=(pure ⟨g,0,none⟩:Sem Addr):=by rw[Array.getD_eq_getD_getElem?,f];rfl
 simp only[List.mapM_toArray,List.mapM_cons,List.mapM_nil,Array.mapM_eq_mapM_toList];rw[ha2];simp[hl2,Result.andThen]
end
set_option maxRecDepth 100000
theorem jF8 (w:World):(isAgg 34).run Tryz.prog w=.ok false w:=by kernel_rfl
theorem jMx (w:World):(isAgg 23).run Tryz.prog w=.ok false w:=by kernel_rfl
theorem jMy (w:World):(isAgg 24).run Tryz.prog w=.ok false w:=by kernel_rfl
theorem jMz (w:World):(isAgg 33).run Tryz.prog w=.ok false w:=by kernel_rfl
theorem j16 (w:World):(isAgg 25).run Tryz.prog w=.ok false w:=by kernel_rfl
theorem jP6 (w:World):(isAgg 4).run Tryz.prog w=.ok false w:=by kernel_rfl
theorem j8c (w:World):(isAgg 3).run Tryz.prog w=.ok false w:=by kernel_rfl
theorem jHw (w:World):(isAgg 9).run Tryz.prog w=.ok false w:=by kernel_rfl
theorem jMw (w:World):(isAgg 22).run Tryz.prog w=.ok false w:=by kernel_rfl
theorem j4a (w:World):(isAgg 5).run Tryz.prog w=.ok false w:=by kernel_rfl
theorem jM0 (w:World):(Go.sizeOf 34).run Tryz.prog w=.ok 1 w:=by kernel_rfl
theorem jLx (w:World):(Go.sizeOf 23).run Tryz.prog w=.ok 1 w:=by kernel_rfl
theorem jLy (w:World):(Go.sizeOf 24).run Tryz.prog w=.ok 1 w:=by kernel_rfl
theorem jLz (w:World):(Go.sizeOf 33).run Tryz.prog w=.ok 1 w:=by kernel_rfl
theorem jGo (w:World):(Go.sizeOf 25).run Tryz.prog w=.ok 1 w:=by kernel_rfl
theorem jOi (w:World):(Go.sizeOf 4).run Tryz.prog w=.ok 1 w:=by kernel_rfl
theorem jOh (w:World):(Go.sizeOf 3).run Tryz.prog w=.ok 1 w:=by kernel_rfl
theorem jOj (w:World):(Go.sizeOf 9).run Tryz.prog w=.ok 1 w:=by kernel_rfl
theorem jLw (w:World):(Go.sizeOf 22).run Tryz.prog w=.ok 1 w:=by kernel_rfl
theorem j7n (w:World):(Go.sizeOf 5).run Tryz.prog w=.ok 1 w:=by kernel_rfl
theorem jCv (w:World):(isAgg 63).run Tryz.prog w=.ok true w:=by kernel_rfl
theorem j20 (w:World):(Go.sizeOf 63).run Tryz.prog w=.ok 2 w:=by kernel_rfl
theorem jY (w:World):(isAgg 36).run Tryz.prog w=.ok true w:=by kernel_rfl
theorem jQ (w:World):(Go.sizeOf 36).run Tryz.prog w=.ok 25 w:=by kernel_rfl
theorem jKy (w:World):(Go.sizeOf 46).run Tryz.prog w=.ok 4 w:=by kernel_rfl
theorem jCu (w:World):(isAgg 51).run Tryz.prog w=.ok true w:=by kernel_rfl
theorem xe (w:World):(Go.sizeOf 51).run Tryz.prog w=.ok 2 w:=by kernel_rfl
theorem qR (w:World):(isAgg 27).run Tryz.prog w=.ok true w:=by kernel_rfl
theorem jg (w:World):(Go.sizeOf 27).run Tryz.prog w=.ok 25 w:=by kernel_rfl
theorem jOl (w:World):(Go.sizeOf 82).run Tryz.prog w=.ok 4 w:=by kernel_rfl
theorem jIw:FAt Tryz.prog 63 0 0:=by
 intro B o w
 have u:=Tryz.underlying63
 go_simp
theorem jIx:FAt Tryz.prog 63 1 1:=by
 intro B o w
 have u:=Tryz.underlying63
 go_simp
theorem jIi:FAt Tryz.prog 36 0 0:=by
 intro B o w
 have u:=Tryz.underlying36
 go_simp
theorem jIj:FAt Tryz.prog 36 1 1:=by
 intro B o w
 have u:=Tryz.underlying36
 go_simp
theorem jIk:FAt Tryz.prog 36 2 2:=by
 intro B o w
 have u:=Tryz.underlying36
 go_simp
theorem jIl:FAt Tryz.prog 36 3 3:=by
 intro B o w
 have u:=Tryz.underlying36
 go_simp
theorem jIm:FAt Tryz.prog 36 4 4:=by
 intro B o w
 have u:=Tryz.underlying36
 go_simp
theorem jIn:FAt Tryz.prog 36 5 5:=by
 intro B o w
 have u:=Tryz.underlying36
 go_simp
theorem jIo:FAt Tryz.prog 36 6 6:=by
 intro B o w
 have u:=Tryz.underlying36
 go_simp
theorem jIp:FAt Tryz.prog 36 7 7:=by
 intro B o w
 have u:=Tryz.underlying36
 go_simp
theorem jIq:FAt Tryz.prog 36 8 8:=by
 intro B o w
 have u:=Tryz.underlying36
 go_simp
theorem jIr:FAt Tryz.prog 36 9 9:=by
 intro B o w
 have u:=Tryz.underlying36
 go_simp
theorem jFy:FAt Tryz.prog 36 10 10:=by
 intro B o w
 have u:=Tryz.underlying36
 go_simp
theorem jFz:FAt Tryz.prog 36 11 11:=by
 intro B o w
 have u:=Tryz.underlying36
 go_simp
theorem jG0:FAt Tryz.prog 36 12 12:=by
 intro B o w
 have u:=Tryz.underlying36
 go_simp
theorem jG1:FAt Tryz.prog 36 13 13:=by
 intro B o w
 have u:=Tryz.underlying36
 go_simp
theorem jG2:FAt Tryz.prog 36 14 14:=by
 intro B o w
 have u:=Tryz.underlying36
 go_simp
theorem jG3:FAt Tryz.prog 36 15 15:=by
 intro B o w
 have u:=Tryz.underlying36
 go_simp
theorem jG4:FAt Tryz.prog 36 16 16:=by
 intro B o w
 have u:=Tryz.underlying36
 go_simp
theorem jG5:FAt Tryz.prog 36 17 17:=by
 intro B o w
 have u:=Tryz.underlying36
 go_simp
theorem jG6:FAt Tryz.prog 36 18 18:=by
 intro B o w
 have u:=Tryz.underlying36
 go_simp
theorem jG7:FAt Tryz.prog 36 19 19:=by
 intro B o w
 have u:=Tryz.underlying36
 go_simp
theorem jG8:FAt Tryz.prog 36 20 20:=by
 intro B o w
 have u:=Tryz.underlying36
 go_simp
theorem jG9:FAt Tryz.prog 36 21 21:=by
 intro B o w
 have u:=Tryz.underlying36
 go_simp
theorem j5l:FAt Tryz.prog 36 22 22:=by
 intro B o w
 have u:=Tryz.underlying36
 go_simp
theorem jGa:FAt Tryz.prog 36 23 23:=by
 intro B o w
 have u:=Tryz.underlying36
 go_simp
theorem jGb:FAt Tryz.prog 36 24 24:=by
 intro B o w
 have u:=Tryz.underlying36
 go_simp
theorem jIs:FAt Tryz.prog 46 2 2:=by
 intro B o w
 have u:=Tryz.underlying46
 go_simp
theorem jIt:FAt Tryz.prog 46 3 3:=by
 intro B o w
 have u:=Tryz.underlying46
 go_simp
theorem jIu:FAt Tryz.prog 51 0 0:=by
 intro B o w
 have u:=Tryz.underlying51
 go_simp
theorem jIv:FAt Tryz.prog 51 1 1:=by
 intro B o w
 have u:=Tryz.underlying51
 go_simp
theorem jI8:FAt Tryz.prog 27 0 0:=by
 intro B o w
 have u:=Tryz.underlying27
 go_simp
theorem jI9:FAt Tryz.prog 27 1 1:=by
 intro B o w
 have u:=Tryz.underlying27
 go_simp
theorem jIa:FAt Tryz.prog 27 2 2:=by
 intro B o w
 have u:=Tryz.underlying27
 go_simp
theorem jIb:FAt Tryz.prog 27 3 3:=by
 intro B o w
 have u:=Tryz.underlying27
 go_simp
theorem jIc:FAt Tryz.prog 27 4 4:=by
 intro B o w
 have u:=Tryz.underlying27
 go_simp
theorem jId:FAt Tryz.prog 27 5 5:=by
 intro B o w
 have u:=Tryz.underlying27
 go_simp
theorem jIe:FAt Tryz.prog 27 6 6:=by
 intro B o w
 have u:=Tryz.underlying27
 go_simp
theorem jIf:FAt Tryz.prog 27 7 7:=by
 intro B o w
 have u:=Tryz.underlying27
 go_simp
theorem jIg:FAt Tryz.prog 27 8 8:=by
 intro B o w
 have u:=Tryz.underlying27
 go_simp
theorem jIh:FAt Tryz.prog 27 9 9:=by
 intro B o w
 have u:=Tryz.underlying27
 go_simp
theorem jFk:FAt Tryz.prog 27 10 10:=by
 intro B o w
 have u:=Tryz.underlying27
 go_simp
theorem jFl:FAt Tryz.prog 27 11 11:=by
 intro B o w
 have u:=Tryz.underlying27
 go_simp
theorem jFm:FAt Tryz.prog 27 12 12:=by
 intro B o w
 have u:=Tryz.underlying27
 go_simp
theorem jFn:FAt Tryz.prog 27 13 13:=by
 intro B o w
 have u:=Tryz.underlying27
 go_simp
theorem jFo:FAt Tryz.prog 27 14 14:=by
 intro B o w
 have u:=Tryz.underlying27
 go_simp
theorem jFp:FAt Tryz.prog 27 15 15:=by
 intro B o w
 have u:=Tryz.underlying27
 go_simp
theorem jFq:FAt Tryz.prog 27 16 16:=by
 intro B o w
 have u:=Tryz.underlying27
 go_simp
theorem jFr:FAt Tryz.prog 27 17 17:=by
 intro B o w
 have u:=Tryz.underlying27
 go_simp
theorem jFs:FAt Tryz.prog 27 18 18:=by
 intro B o w
 have u:=Tryz.underlying27
 go_simp
theorem jFt:FAt Tryz.prog 27 19 19:=by
 intro B o w
 have u:=Tryz.underlying27
 go_simp
theorem jFu:FAt Tryz.prog 27 20 20:=by
 intro B o w
 have u:=Tryz.underlying27
 go_simp
theorem jFv:FAt Tryz.prog 27 21 21:=by
 intro B o w
 have u:=Tryz.underlying27
 go_simp
theorem jFw:FAt Tryz.prog 27 22 22:=by
 intro B o w
 have u:=Tryz.underlying27
 go_simp
theorem xc:FAt Tryz.prog 27 23 23:=by
 intro B o w
 have u:=Tryz.underlying27
 go_simp
theorem jFx:FAt Tryz.prog 27 24 24:=by
 intro B o w
 have u:=Tryz.underlying27
 go_simp
theorem jF9 (w:World):(Instr.alloc 63 true (.tuple #[])).run Tryz.prog w=.ok (.pointer (some ⟨w.heap.size,0,none⟩)) (w.alloc (.cells #[(.string ⟨#[]⟩),(.int .u8 0)] 63)):=by kernel_rfl
theorem j07 (w:World):(Instr.alloc 36 true (.tuple #[])).run Tryz.prog w=.ok (.pointer (some ⟨w.heap.size,0,none⟩)) (w.alloc (.cells jm 36)):=by kernel_rfl
theorem jKg (w:World):(Instr.alloc 46 true (.tuple #[])).run Tryz.prog w=.ok (.pointer (some ⟨w.heap.size,0,none⟩)) (w.alloc (.cells #[(.int .u8 0),(.int .u32 0),(.string ⟨#[]⟩),(.string ⟨#[]⟩)] 46)):=by kernel_rfl
theorem jCg (w:World):(Instr.alloc 51 true (.tuple #[])).run Tryz.prog w=.ok (.pointer (some ⟨w.heap.size,0,none⟩)) (w.alloc (.cells #[(.string ⟨#[]⟩),(.int .u8 0)] 51)):=by kernel_rfl
theorem j78 (w:World):(Instr.alloc 27 true (.tuple #[])).run Tryz.prog w=.ok (.pointer (some ⟨w.heap.size,0,none⟩)) (w.alloc (.cells jm 27)):=by kernel_rfl
theorem jN1 (w:World):(Instr.alloc 82 true (.tuple #[])).run Tryz.prog w=.ok (.pointer (some ⟨w.heap.size,0,none⟩)) (w.alloc (.cells #[(.int .u8 0),(.int .u32 0),(.string ⟨#[]⟩),(.string ⟨#[]⟩)] 82)):=by kernel_rfl
open Go.RowKit Go.ChangeShapes Go.WideShapes Go.Deep
structure j89 (w:World) (a:Option Addr) (len cap:Nat) (l:List UInt8):Prop where
 hlen:l.length=len
 hrow:Row w a (B8 l)
 hle:len≤cap
 hcap:cap≤maxLen
 hnil:a=none→len=0∧cap=0
theorem IsRow.bytes {w:World} {a:Option Addr} {len cap:Nat} {zs:List Int} (h:IsRow .u8 w a len cap zs):j89 w a len cap ((zs.take len).map jN):=by
 obtain ⟨hrow,hlen,hlc,hcm,hn,hwf⟩:=h.row;rw[j60 hwf]at hrow;exact ⟨by simpa using hlen,hrow,hlc,hcm,(λh=>by have:=hn h;omega)⟩
structure IsPk (w:World) (p:Pk) (s:Sl):Prop where
 hkind:(Lit.int .i64 p.kind).wf=true
 hqos:p.qos<256
 hid:p.id<65536
 hkeep:p.keep<65536
 hwillQoS:p.willQoS<256
 hcode:p.code<256
 hclient:p.client.size≤maxLen
 hwillTopic:p.willTopic.size≤maxLen
 hwillLoad:p.willLoad.size≤maxLen
 huser:p.user.size≤maxLen
 hpass:p.pass.size≤maxLen
 htopic:p.topic.size≤maxLen
 hload:p.load.size≤maxLen
 hw:j8a w s.wa p.willProps.length s.wc p.willProps
 hf:jCd w s.fa p.filters.length s.fc p.filters
 hc:j89 w s.ca p.codes.length s.cc p.codes
 hp:j8a w s.pa p.props.length s.pc p.props
theorem j58 {x:Int} (h:(Lit.int .u16 x).wf=true):0≤x∧x≤65535:=by
 have h2:IntKind.u16.min≤x∧x≤IntKind.u16.max:=by simpa [Lit.wf] using h
 exact h2
section
variable {H:Type} {enc:TypeId × Value→H} {w:World} {base:Nat} {spare:Nat→Bool} {held:Bool}
set_option maxHeartbeats 4000000 in
theorem jJh {r:Go.Reach} {b0:Nat} {v:Value} {d:DataW H} {pl:List MemPlace} (hv:Value.okWide Tryz.prog w r b0 27 v) (h:DataW.Trod enc Tryz.prog w base (λ_=>true) held 27 v d pl) :
  ∃ p s,v=Pk.val p s∧IsPk w p s:=by
 have u:=Tryz.underlying27;obtain ⟨cs,rfl,hsz⟩:=okWide_struct u hv;have hC:Tryz.prog.cellsOf 27=25:=by kernel_rfl
 obtain ⟨l⟩:=cs
 match l,hsz.trans hC with
 | [c0,c1,c2,c3,c4,c5,c6,c7,c8,c9,c10,c11,c12,c13,c14,c15,c16,c17,c18,c19,c20,c21,c22,c23,c24],_ =>
  obtain ⟨fuel,hf⟩:=h;simp only[Value.cells]at hf;obtain ⟨k0,y0,t0⟩:=jw (j:=0) u hf rfl rfl (by kernel_rfl) (by simp);simp only[List.getElem_cons_succ,List.getElem_cons_zero]at t0;obtain ⟨x0,e0,_,w0⟩:=DataW.trod_int Tryz.underlying3 t0;obtain rfl:=List.singleton_inj.1 e0;obtain ⟨k1,y1,t1⟩:=jw (j:=1) u hf rfl rfl (by kernel_rfl) (by simp);simp only[List.getElem_cons_succ,List.getElem_cons_zero]at t1;obtain ⟨x1,e1,_⟩:=DataW.trod_bool Tryz.underlying4 t1;obtain rfl:=List.singleton_inj.1 e1;obtain ⟨k2,y2,t2⟩:=jw (j:=2) u hf rfl rfl (by kernel_rfl) (by simp);simp only[List.getElem_cons_succ,List.getElem_cons_zero]at t2;obtain ⟨x2,e2,_⟩:=DataW.trod_bool Tryz.underlying4 t2;obtain rfl:=List.singleton_inj.1 e2;obtain ⟨k3,y3,t3⟩:=jw (j:=3) u hf rfl rfl (by kernel_rfl) (by simp);simp only[List.getElem_cons_succ,List.getElem_cons_zero]at t3;obtain ⟨x3,e3,_,w3⟩:=DataW.trod_int Tryz.underlying5 t3;obtain rfl:=List.singleton_inj.1 e3;have b3:=bounds_u8 w3;obtain ⟨n3,rfl⟩:=Int.eq_ofNat_of_zero_le b3.1;obtain ⟨k4,y4,t4⟩:=jw (j:=4) u hf rfl rfl (by kernel_rfl) (by simp);simp only[List.getElem_cons_succ,List.getElem_cons_zero]at t4;obtain ⟨x4,e4,_,w4⟩:=DataW.trod_int Tryz.underlying22 t4;obtain rfl:=List.singleton_inj.1 e4;have b4:=j58 w4;obtain ⟨n4,rfl⟩:=Int.eq_ofNat_of_zero_le b4.1;obtain ⟨k5,y5,t5⟩:=jw (j:=5) u hf rfl rfl (by kernel_rfl) (by simp);simp only[List.getElem_cons_succ,List.getElem_cons_zero]at t5;obtain ⟨x5,e5,_⟩:=DataW.trod_bool Tryz.underlying4 t5;obtain rfl:=List.singleton_inj.1 e5;obtain ⟨k6,y6,t6⟩:=jw (j:=6) u hf rfl rfl (by kernel_rfl) (by simp);simp only[List.getElem_cons_succ,List.getElem_cons_zero]at t6;obtain ⟨x6,e6,_,w6⟩:=DataW.trod_int Tryz.underlying22 t6;obtain rfl:=List.singleton_inj.1 e6;have b6:=j58 w6;obtain ⟨n6,rfl⟩:=Int.eq_ofNat_of_zero_le b6.1;obtain ⟨k7,y7,t7⟩:=jw (j:=7) u hf rfl rfl (by kernel_rfl) (by simp);simp only[List.getElem_cons_succ,List.getElem_cons_zero]at t7;obtain ⟨x7,e7,_,w7⟩:=DataW.trod_string Tryz.underlying9 t7;obtain rfl:=List.singleton_inj.1 e7;obtain ⟨k8,y8,t8⟩:=jw (j:=8) u hf rfl rfl (by kernel_rfl) (by simp);simp only[List.getElem_cons_succ,List.getElem_cons_zero]at t8;obtain ⟨x8,e8,_⟩:=DataW.trod_bool Tryz.underlying4 t8;obtain rfl:=List.singleton_inj.1 e8;obtain ⟨k9,y9,t9⟩:=jw (j:=9) u hf rfl rfl (by kernel_rfl) (by simp);simp only[List.getElem_cons_succ,List.getElem_cons_zero]at t9;obtain ⟨x9,e9,_⟩:=DataW.trod_bool Tryz.underlying4 t9;obtain rfl:=List.singleton_inj.1 e9;obtain ⟨k10,y10,t10⟩:=jw (j:=10) u hf rfl rfl (by kernel_rfl) (by simp);simp only[List.getElem_cons_succ,List.getElem_cons_zero]at t10;obtain ⟨x10,e10,_⟩:=DataW.trod_bool Tryz.underlying4 t10;obtain rfl:=List.singleton_inj.1 e10;obtain ⟨k11,y11,t11⟩:=jw (j:=11) u hf rfl rfl (by kernel_rfl) (by simp);simp only[List.getElem_cons_succ,List.getElem_cons_zero]at t11;obtain ⟨x11,e11,_,w11⟩:=DataW.trod_int Tryz.underlying5 t11;obtain rfl:=List.singleton_inj.1 e11;have b11:=bounds_u8 w11;obtain ⟨n11,rfl⟩:=Int.eq_ofNat_of_zero_le b11.1;obtain ⟨k12,y12,t12⟩:=jw (j:=12) u hf rfl rfl (by kernel_rfl) (by simp);simp only[List.getElem_cons_succ,List.getElem_cons_zero]at t12;obtain ⟨x12,e12,_⟩:=DataW.trod_bool Tryz.underlying4 t12;obtain rfl:=List.singleton_inj.1 e12;obtain ⟨k13,y13,t13⟩:=jw (j:=13) u hf rfl rfl (by kernel_rfl) (by simp);simp only[List.getElem_cons_succ,List.getElem_cons_zero]at t13;obtain ⟨a13,l13,q13,x13,e13,w13⟩:=j6c t13;obtain rfl:=w13.hlen;obtain rfl:=List.singleton_inj.1 e13;obtain ⟨k14,y14,t14⟩:=jw (j:=14) u hf rfl rfl (by kernel_rfl) (by simp);simp only[List.getElem_cons_succ,List.getElem_cons_zero]at t14;obtain ⟨x14,e14,_,w14⟩:=DataW.trod_string Tryz.underlying9 t14;obtain rfl:=List.singleton_inj.1 e14;obtain ⟨k15,y15,t15⟩:=jw (j:=15) u hf rfl rfl (by kernel_rfl) (by simp);simp only[List.getElem_cons_succ,List.getElem_cons_zero]at t15;obtain ⟨x15,e15,_,w15⟩:=DataW.trod_string Tryz.underlying9 t15
  obtain rfl:=List.singleton_inj.1 e15;obtain ⟨k16,y16,t16⟩:=jw (j:=16) u hf rfl rfl (by kernel_rfl) (by simp);simp only[List.getElem_cons_succ,List.getElem_cons_zero]at t16;obtain ⟨x16,e16,_,w16⟩:=DataW.trod_string Tryz.underlying9 t16;obtain rfl:=List.singleton_inj.1 e16;obtain ⟨k17,y17,t17⟩:=jw (j:=17) u hf rfl rfl (by kernel_rfl) (by simp);simp only[List.getElem_cons_succ,List.getElem_cons_zero]at t17;obtain ⟨x17,e17,_,w17⟩:=DataW.trod_string Tryz.underlying9 t17;obtain rfl:=List.singleton_inj.1 e17;obtain ⟨k18,y18,t18⟩:=jw (j:=18) u hf rfl rfl (by kernel_rfl) (by simp);simp only[List.getElem_cons_succ,List.getElem_cons_zero]at t18;obtain ⟨x18,e18,_⟩:=DataW.trod_bool Tryz.underlying4 t18;obtain rfl:=List.singleton_inj.1 e18;obtain ⟨k19,y19,t19⟩:=jw (j:=19) u hf rfl rfl (by kernel_rfl) (by simp);simp only[List.getElem_cons_succ,List.getElem_cons_zero]at t19;obtain ⟨x19,e19,_,w19⟩:=DataW.trod_int Tryz.underlying5 t19;obtain rfl:=List.singleton_inj.1 e19;have b19:=bounds_u8 w19;obtain ⟨n19,rfl⟩:=Int.eq_ofNat_of_zero_le b19.1;obtain ⟨k20,y20,t20⟩:=jw (j:=20) u hf rfl rfl (by kernel_rfl) (by simp);simp only[List.getElem_cons_succ,List.getElem_cons_zero]at t20;obtain ⟨x20,e20,_,w20⟩:=DataW.trod_string Tryz.underlying9 t20;obtain rfl:=List.singleton_inj.1 e20;obtain ⟨k21,y21,t21⟩:=jw (j:=21) u hf rfl rfl (by kernel_rfl) (by simp);simp only[List.getElem_cons_succ,List.getElem_cons_zero]at t21;obtain ⟨x21,e21,_,w21⟩:=DataW.trod_string Tryz.underlying9 t21;obtain rfl:=List.singleton_inj.1 e21;obtain ⟨k22,y22,t22⟩:=jw (j:=22) u hf rfl rfl (by kernel_rfl) (by simp);simp only[List.getElem_cons_succ,List.getElem_cons_zero]at t22;obtain ⟨a22,l22,q22,x22,e22,w22⟩:=jBt t22;obtain rfl:=w22.hlen;obtain rfl:=List.singleton_inj.1 e22;obtain ⟨k23,y23,t23⟩:=jw (j:=23) u hf rfl rfl (by kernel_rfl) (by simp);simp only[List.getElem_cons_succ,List.getElem_cons_zero]at t23
  obtain ⟨a23,l23,q23,x23,e23,w23⟩:∃ a len cap l,[c23]=[Value.slice a len cap]∧j89 w a len cap l:=by
   rcases open_ints Tryz.underlying25 Tryz.underlying5 (by kernel_rfl) t23 with ⟨hcs,_⟩|⟨x,l,c,zs,hcs,_,hl,hm,hz,_,hcell,hwz⟩
   ·exact ⟨none,0,0,[],hcs,rfl,.nil _ _,Nat.le_refl _,by simp,λ_=>⟨rfl,rfl⟩⟩
   ·have hr:IsRow .u8 w (some x) l c zs:=.inr ⟨_,rfl,hl,hm,by simpa using hz,hcell,hwz⟩
    exact ⟨_,l,c,_,hcs,hr.bytes⟩
  obtain rfl:=w23.hlen;obtain rfl:=List.singleton_inj.1 e23;obtain ⟨k24,y24,t24⟩:=jw (j:=24) u hf rfl rfl (by kernel_rfl) (by simp);simp only[List.getElem_cons_succ,List.getElem_cons_zero]at t24;obtain ⟨a24,l24,q24,x24,e24,w24⟩:=j6c t24;obtain rfl:=w24.hlen;obtain rfl:=List.singleton_inj.1 e24;refine ⟨⟨x0,x1,x2,n3,n4,x5,n6,x7,x8,x9,x10,n11,x12,x13,x14,x15,x16,x17,x18,n19,x20,x21,x22,x23,x24⟩,⟨a13,q13,a22,q22,a23,q23,a24,q24⟩,rfl,?_⟩;exact ⟨w0,(by have:=b3.2;omega:n3<256),(by have:=b4.2;omega:n4<65536),(by have:=b6.2;omega:n6<65536),(by have:=b11.2;omega:n11<256),(by have:=b19.2;omega:n19<256),w7,w14,w15,w16,w17,w20,w21,w13,w22,w23,w24⟩
end
end Go.Proofs.YtkochkhfbhjicaaGreatDoor
namespace Go.Proofs.YtkochkhfbhjicaaGreatDoor
open Go.RowKit Go.ChangeShapes Go.WideShapes Go.Deep
set_option linter.unusedVariables false
set_option linter.unusedSimpArgs false
set_option maxRecDepth 100000
section
variable {H:Type} {enc:TypeId × Value→H} {w:World} {base:Nat} {spare:Nat→Bool} {held:Bool}
end
end Go.Proofs.YtkochkhfbhjicaaGreatDoor
