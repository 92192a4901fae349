import Derived.Test.YtdeecgmihfakgaaGreatDoorBase
import Derived.Deep.RegionHeld3
import Derived.Laws.Tables
import Derived.Test.YtdeecgmihfakgaaGreatDoorYFC
import Derived.Test.YtdeecgmihfakgaaGreatDoorChecked
import Derived.Test.YtdeecgmihfakgaaGreatDoorYF9
import Derived.ChangeSlices
import Derived.OpenShut
import Derived.ShutString
namespace Go.Proofs.YtdeecgmihfakgaaGreatDoor
open Go.RowKit
set_option linter.unusedVariables false
set_option linter.unusedSimpArgs false
section
variable {P:Program} {ops:Array Oper} {Q:Exit→Act→World→Prop} {a:Act} {w:World} {rest:List Oper} {o:Oper} {N n:Nat} {ρ:Operand→Value}
theorem gx_toListInj (a b:ByteArray):a.toList=b.toList↔a=b:=by
 constructor
 ·intro h
  have e:a.data.toList=b.data.toList:=by rw[← ByteArray.toList_eq,← ByteArray.toList_eq];exact h
  exact ByteArray.ext (Array.toList_inj.1 e)
 ·intro h;rw[h]
theorem gx_ev {i:Nat} {v:Value} (h:a.tmps[i]?=some v):a.eval (.tmp i)=v:=by simp[Act.eval,Array.getD_eq_getD_getElem?,h]
theorem gx_evc {v:Value}:a.eval (.const v)=v:=rfl
theorem gx_put {v:Value} (z:a.tmps.size=N) (hn:n < N):(a.put (some n) v).tmps.size=N∧(a.put (some n) v).tmps[n]?=some v∧(∀ i,i≠n→(a.put (some n) v).tmps[i]?=a.tmps[i]?)∧(a.put (some n) v).defers=a.defers:=by
 refine ⟨by simp[Act.put,z],by simp[Act.put,z,hn],fun i hi=>?_,rfl⟩;simp[Act.put,Array.getElem?_setIfInBounds,Ne.symm hi]
theorem gx_w {y:Nat→Option Bool} (hg:o.guard=none):Region.wanted o y=true:=by simp[Region.wanted,hg]
theorem gx_wg {j t:Nat} {b want:Bool} (hg:o.guard=some (j,want)) (hj:(ops[j]?).bind (·.dst)=some t) (f:a.tmps[t]?=some (.bool b)):Region.wanted o (yielded ops a.tmps)=(b == want):=by
 simp[Region.wanted,hg,yielded,hj,f]
theorem gx_wu {j t:Nat} {want:Bool} (hg:o.guard=some (j,want)) (hj:(ops[j]?).bind (·.dst)=some t) (f:a.tmps[t]?=some undef):Region.wanted o (yielded ops a.tmps)=false:=by
 simp[Region.wanted,hg,yielded,hj,f,undef]
theorem gx_is {i:Nat} {u v:Value} (f:a.tmps[i]?=some u) (h:u=v):a.tmps[i]?=some v:=h▸f
theorem gx_st {w':World} (hw:Region.wanted o (yielded ops a.tmps)=true) (hd:o.dst=none) (h:(execOp a.eval o).run P w=.ok .skip w') (k:wpList P ops Q rest a w'):wpList P ops Q (o :: rest) a w:=by
 unfold wpList;rw[if_pos hw];left;unfold Oper.wp;rw[h];show wpList P ops Q rest (a.put o.dst undef) w';rw[hd];exact k
section
variable {md:Region.Mode} {S:World→Prop} {fuel:Nat} {listed:Array Bool}
theorem gxh_one {i:Nat} (hi:ops[i]?=some o) (hr:Region.ready md ops listed=[i]) (hw:Region.wanted o (yielded ops a.tmps)=true)
  (h:o.wp P a w (fun a' w'=>S w'∧wpAnyH P md ops Q S fuel (listed.setIfInBounds i true) a' w') Q):wpAnyH P md ops Q S (fuel+1) listed a w:=by
 refine wpAnyH_all hr (by simp) fun j hj=>?_
 obtain rfl:=List.mem_singleton.1 hj;unfold wpOp;simp only[hi];rw[if_pos hw];exact .inl h
end
theorem ex_move {w:World} {x:Operand} {v:Value} (ho:o.op=.move x) (hx:ρ x=v):(execOp ρ o).run P w=.ok (.value v) w:=by simp[execOp,ho,hx]
theorem ex_assign {w:World} {x:Operand} {v:Value} (ho:o.op=.assign x) (hx:ρ x=v):(execOp ρ o).run P w=.ok (.value v) w:=by simp[execOp,ho,hx]
theorem ex_pickT {w:World} {c x y:Operand} {v:Value} (ho:o.op=.pick c x y) (hc:ρ c=.bool true) (hx:ρ x=v):(execOp ρ o).run P w=.ok (.value v) w:=by simp[execOp,ho,hc,hx,asBool]
theorem ex_pickF {w:World} {c x y:Operand} {v:Value} (ho:o.op=.pick c x y) (hc:ρ c=.bool false) (hx:ρ y=v):(execOp ρ o).run P w=.ok (.value v) w:=by simp[execOp,ho,hc,hx,asBool]
theorem gx_val {s:Sem Value} {v:Value} {w w':World} (h:s.run P w=.ok v w'):(do pure (Next.value (← s)):Sem Next).run P w=.ok (.value v) w':=by
 simp[h,Result.andThen]
theorem gx_unit {s:Sem Unit} {w w':World} (h:s.run P w=.ok () w'):(do s;pure Next.skip:Sem Next).run P w=.ok .skip w':=by
 simp[h,Result.andThen]
theorem ex_load {t:TypeId} {x:Operand} {p v:Value} {w:World} (ho:o.op=.load t x) (hx:ρ x=p) (h:(Instr.loadAt t p).run P w=.ok v w):(execOp ρ o).run P w=.ok (.value v) w:=by
 simp only[execOp,ho,hx];exact gx_val h
theorem ex_store {t:TypeId} {x y:Operand} {p v:Value} {w w':World} (ho:o.op=.store t x y) (hx:ρ x=p) (hy:ρ y=v) (h:(Instr.storeAt t p v).run P w=.ok () w'):(execOp ρ o).run P w=.ok .skip w':=by
 simp only[execOp,ho,hx,hy];exact gx_unit h
theorem ex_faddr {t:TypeId} {x:Operand} {p v:Value} {i:Nat} {w:World} (ho:o.op=.fieldAddr t x i) (hx:ρ x=p) (h:(Instr.fieldAt t p i).run P w=.ok v w):(execOp ρ o).run P w=.ok (.value v) w:=by
 simp only[execOp,ho,hx];exact gx_val h
theorem ex_bin {op:BinOp} {t u:TypeId} {x y:Operand} {p q v:Value} {w:World} (ho:o.op=.binOp op t x y u) (hx:ρ x=p) (hy:ρ y=q) (h:(do eqGuard op t x y p q;binOp op t p q:Sem Value).run P w=.ok v w):(execOp ρ o).run P w=.ok (.value v) w:=by
 simp only[execOp,ho,hx,hy];exact gx_val h
theorem ex_un {op:UnOp} {t:TypeId} {x:Operand} {p v:Value} {w:World} (ho:o.op=.unOp op t x) (hx:ρ x=p) (h:(Op.unary op p).run P w=.ok v w):(execOp ρ o).run P w=.ok (.value v) w:=by
 simp only[execOp,ho,hx];exact gx_val h
theorem ex_conv {s t:TypeId} {x:Operand} {p v:Value} {w w':World} (ho:o.op=.convert s t x) (hx:ρ x=p) (h:(convert s t p).run P w=.ok v w'):(execOp ρ o).run P w=.ok (.value v) w':=by
 simp only[execOp,ho,hx];exact gx_val h
theorem ex_idxaddr {t:TypeId} {x y:Operand} {p q v:Value} {w:World} (ho:o.op=.indexAddr t x y) (hx:ρ x=p) (hy:ρ y=q) (h:(Instr.indexAt t p q).run P w=.ok v w):(execOp ρ o).run P w=.ok (.value v) w:=by
 simp only[execOp,ho,hx,hy];exact gx_val h
theorem ex_extract {w:World} {x:Operand} {l:Array Value} {v:Value} {i:Nat} (ho:o.op=.extract x i) (hx:ρ x=.tuple l) (hv:l[i]?=some v):(execOp ρ o).run P w=.ok (.value v) w:=by
 simp[execOp,ho,hx,Instr.extract,hv]
theorem ex_alloc {t:TypeId} {v:Value} {w w':World} (ho:o.op=.alloc t) (h:(Instr.alloc t true (.tuple #[])).run P w=.ok v w'):(execOp ρ o).run P w=.ok (.value v) w':=by
 simp only[execOp,ho];exact gx_val h
theorem ex_box {t:TypeId} {x:Operand} {p v:Value} {w w':World} (ho:o.op=.box t x) (hx:ρ x=p) (h:(Instr.box t p).run P w=.ok v w'):(execOp ρ o).run P w=.ok (.value v) w':=by
 simp only[execOp,ho,hx];exact gx_val h
theorem ex_not {w:World} {t:TypeId} {x:Operand} {b:Bool} (ho:o.op=.unOp .not t x) (hx:ρ x=.bool b):(execOp ρ o).run P w=.ok (.value (.bool !b)) w:=by
 refine ex_un ho hx ?_;simp[Op.unary]
theorem ex_slice {t:TypeId} {x:Operand} {lo hi mx:Option Operand} {p v:Value} {l h m:Option Value} {w:World} (ho:o.op=.slice t x lo hi mx) (hx:ρ x=p) (hl:lo.map ρ=l) (hh:hi.map ρ=h) (hm:mx.map ρ=m) (hr:(Instr.sliceAt t p l h m).run P w=.ok v w):(execOp ρ o).run P w=.ok (.value v) w:=by
 simp only[execOp,ho,hx,hl,hh,hm];exact gx_val hr
theorem ex_build {w:World} {t:TypeId} {l:List (Nat × Operand)} {ps:List (Nat × Value)} {c:Array Value} (ho:o.op=.build t l.toArray) (hl:(l.map fun x=>(x.1,ρ x.2))=ps) (h:P.built t ps=some c):(execOp ρ o).run P w=.ok (.value (.agg c)) w:=by
 simp only[execOp,ho];refine gx_val (run_build w _ _ _ ?_);simp only[List.map_toArray];rw[← h,← hl]
theorem gx_box {t:TypeId} (v:Value) (w:World):(Instr.box t v).run P w=.ok (.pointer (some ⟨w.heap.size,0,none⟩)) (w.alloc (.cells v.cells t)):=by rfl
theorem gl_one {T:TypeId} {b i:Nat} {v:Value} {w:World} (u:(isAgg T).run P w=.ok false w) (h:w.cell? ⟨b,i,none⟩=some v):(Instr.loadAt T (.pointer (some ⟨b,i,none⟩))).run P w=.ok v w:=by
 have e:(Instr.loadAt T (.pointer (some ⟨b,i,none⟩))).run P w=(loadVar T ⟨b,i,none⟩).run P w:=by rfl
 rw[e];unfold loadVar;simp only[Sem.run_bind,u,Result.andThen];simp[go_sem,h]
theorem gl_agg {T k:Nat} {b:Nat} {w:World} (c:Array Value) (hc:c.size=k) (e1:(isAgg T).run P w=.ok true w) (e2:(Go.sizeOf T).run P w=.ok k w) (h:∀ i,w.cell? ⟨b,i,none⟩=c[i]?) :
  (Instr.loadAt T (.pointer (some ⟨b,0,none⟩))).run P w=.ok (.agg c) w:=by
 have e3:=run_loadCells (P:=P) (w:=w) ⟨b,0,none⟩ k (fun j=>c.getD j undef) (fun j hj=>by
  have e:(⟨b,0,none⟩:Addr).add j=⟨b,j,none⟩:=by simp[Addr.add];intro h;exact h.symm
  rw[e,h j];simp[Array.getD_eq_getD_getElem?,hc,hj])
 have e4:((List.range k).map fun j=>c.getD j undef).toArray=c:=by
  apply Array.ext
  ·simp[hc]
  ·intro i h1 h2
   simp[Array.getD_eq_getD_getElem?,h2]
 rw[e4]at e3;have e6:loadCells (⟨b,0,none⟩:Addr) k=loadCellsFrom ⟨b,0,none⟩ 0 k #[]:=rfl;rw[e6]at e3;simp[Instr.loadAt,go_sem,e1,e2,e3]
theorem gx_set {T t b i:Nat} {c c':Array Value} {v:Value} (w:World) (hB:Blk w b t c) (hs:(Go.sizeOf T).run P w=.ok 1 w) (h1:v.oneCell'=true) (hi:i < c.size) (e:c.setIfInBounds i v=c') :
  ∃ w',(Instr.storeAt T (.pointer (some ⟨b,i,none⟩)) v).run P w=.ok () w'∧Blk w' b t c'∧Kept (One b) w w':=by
 refine ⟨w.setCell ⟨b,i,none⟩ v,?_,e▸hB.set_ i v,Kept.setCell (S:=One b) (p:=⟨b,i,none⟩) (Kept.refl _ w) (.inr rfl) v⟩;have e5:(Instr.storeAt T (.pointer (some ⟨b,i,none⟩)) v).run P w=(storeVar T ⟨b,i,none⟩ v).run P w:=by rfl
 have hc:w.cell? ⟨b,i,none⟩=some c[i]:=by rw[hB.cell i];simp[hi]
 have hf:=hB.frozen i;have hcl:v.cells=#[v]:=by cases v<;>first|rfl|(simp[Value.oneCell']at h1)
 have e0:(⟨b,i,none⟩:Addr).add 0=⟨b,i,none⟩:=rfl;have e6:=run_store P w ⟨b,i,none⟩ v .plain h1;rw[hc,hf]at e6;rw[e5];unfold storeVar;simp only[Sem.run_bind,hs,Result.andThen,hcl];simp[storeCells,e0,e6,Result.andThen]
theorem gx_storeAgg {S b:Nat} {t:TypeId} {old c:Array Value} (w:World) (hB:Blk w b t old) (hs:(Go.sizeOf S).run P w=.ok c.size w) (he:old.size=c.size) (h1:c.all (·.oneCell')=true) :
  ∃ w',(Instr.storeAt S (.pointer (some ⟨b,0,none⟩)) (.agg c)).run P w=.ok () w'∧Blk w' b t c∧Kept (One b) w w':=by
 have hi:(P.info? S).map (·.size)=some c.size:=by
  unfold Go.sizeOf typeInfo at hs;simp only[Sem.run_bind]at hs;cases hI:P.info? S with
  | none=>simp[hI,go_sem,Result.andThen]at hs
  | some i =>
   simp[hI,go_sem,Result.andThen]at hs;simp[hs]
 refine ⟨w.setRow b c,?_,?_,?_⟩
 ·have e5:(Instr.storeAt S (.pointer (some ⟨b,0,none⟩)) (.agg c)).run P w=(storeVar S ⟨b,0,none⟩ (.agg c)).run P w:=by rfl
  rw[e5,run_storeVar_row (P:=P) w b t S old c hB hi he h1]
 ·unfold Blk at hB ⊢
  show (w.heap.modify b _)[b]?=_;rw[Array.getElem?_modify,if_pos rfl,hB]
  rfl
 ·refine ⟨rfl,rfl,rfl,by simp[World.setRow],fun k hk hn=>?_⟩
  have:b≠k:=fun e=>hn e.symm
  simp[World.setRow,Array.getElem?_modify,this]
theorem rn_lens {t e ty:TypeId} {s:Option Addr} {m c:Nat} (u:P.underlying t=some (.slice e)) {w:World}:(Builtin.len_ #[t] ty #[.slice s m c]).run P w=.ok (.int .i64 m) w:=by
 have e':P.elem t=e:=by simp[Program.elem,u]
 rw[run_len_slice w t ty s m c (by rw[e'];exact u)]
 rfl
theorem rn_lenstr {t ty:TypeId} {s:ByteArray} (u:P.underlying t=some .string) {w:World}:(Builtin.len_ #[t] ty #[.string s]).run P w=.ok (.int .i64 s.size) w:=by
 rw[run_len_string w t ty s u]
 rfl
theorem rn_idx {t e b off m c k:Nat} {i:Nat} {K:IntKind} {w:World} (u:P.underlying t=some (.slice e)) (hs:(Go.sizeOf e).run P w=.ok k w) (hi:i < m):(Instr.indexAt t (.slice (some ⟨b,off,none⟩) m c) (.int K i)).run P w=.ok (.pointer (some ⟨b,off+i * k,none⟩)) w:=by
 have e':P.elem t=e:=by simp[Program.elem,u]
 rw[run_indexAt_slice w t _ _ _ _ _ (by rw[e'];exact u),if_pos ⟨by omega,by omega⟩,e',hs];simp[Result.andThen,Addr.add_lit]
theorem gx_wrap_i64 {n:Int} (h:-9223372036854775808≤n) (h2:n≤9223372036854775807):IntKind.i64.wrap n=n:=by rw[IntKind.wrap_i64];omega
theorem gx_wrap_u8 {n:Int} (h:0≤n) (h2:n≤255):IntKind.u8.wrap n=n:=by rw[IntKind.wrap_u8];omega
theorem bits_and8 {m n:Nat} (hm:m < 256) (hn:n < 256):Op.intBits .and .u8 (m:Int) (n:Int)=pure (.int .u8 ((m &&& n:Nat):Int)):=by
 have h1:(m &&& n) < 256:=Nat.lt_of_le_of_lt Nat.and_le_left hm;have e:(BitVec.ofInt 8 (m:Int) &&& BitVec.ofInt 8 (n:Int)).toNat=m &&& n:=by simp[BitVec.toNat_and,Nat.mod_eq_of_lt hm,Nat.mod_eq_of_lt hn]
 show (pure (.int .u8 (IntKind.u8.wrap ((BitVec.ofInt 8 (m:Int) &&& BitVec.ofInt 8 (n:Int)).toNat:Int))):Sem Value)=_;rw[e,gx_wrap_u8 (by omega) (by omega)]
theorem bits_andNot8 {m n:Nat} (hm:m < 256) (hn:n < 256):Op.intBits .andNot .u8 (m:Int) (n:Int)=pure (.int .u8 ((m &&& (255 - n):Nat):Int)):=by
 have h1:(m &&& (255 - n)) < 256:=Nat.lt_of_le_of_lt Nat.and_le_left hm;have e:(BitVec.ofInt 8 (m:Int) &&& ~~~BitVec.ofInt 8 (n:Int)).toNat=m &&& (255 - n):=by simp[BitVec.toNat_and,BitVec.toNat_not,Nat.mod_eq_of_lt hm,Nat.mod_eq_of_lt hn]
 show (pure (.int .u8 (IntKind.u8.wrap ((BitVec.ofInt 8 (m:Int) &&& ~~~BitVec.ofInt 8 (n:Int)).toNat:Int))):Sem Value)=_;rw[e,gx_wrap_u8 (by omega) (by omega)]
theorem rn_and8 {t:TypeId} {m n:Nat} {x y:Operand} {w:World} (hm:m < 256) (hn:n < 256):(do eqGuard .and t x y (.int .u8 m) (.int .u8 n);binOp .and t (.int .u8 m) (.int .u8 n):Sem Value).run P w=.ok (.int .u8 ((m &&& n:Nat):Int)) w:=by
 simp[eqGuard,binOp,bits_and8 hm hn]
theorem rn_andNot8 {t:TypeId} {m n:Nat} {x y:Operand} {w:World} (hm:m < 256) (hn:n < 256):(do eqGuard .andNot t x y (.int .u8 m) (.int .u8 n);binOp .andNot t (.int .u8 m) (.int .u8 n):Sem Value).run P w=.ok (.int .u8 ((m &&& (255 - n):Nat):Int)) w:=by
 simp[eqGuard,binOp,bits_andNot8 hm hn]
theorem gl_agg2 {T b o:Nat} {w:World} {u v:Value} (e1:(isAgg T).run P w=.ok true w) (e2:(Go.sizeOf T).run P w=.ok 2 w) (h0:w.cell? ⟨b,o,none⟩=some u) (h1:w.cell? ⟨b,o+1,none⟩=some v) :
  (Instr.loadAt T (.pointer (some ⟨b,o,none⟩))).run P w=.ok (.agg #[u,v]) w:=by
 have e3:=run_loadCells_list (P:=P) (w:=w) ⟨b,o,none⟩ [u,v] (fun j z hz=>by
  rw[Addr.add_lit]
  match j with
  | 0=>simp at hz;subst hz;exact h0
  | 1=>simp at hz;subst hz;exact h1
  | j+2=>simp at hz)
 have e5:(Instr.loadAt T (.pointer (some ⟨b,o,none⟩))).run P w=(loadVar T ⟨b,o,none⟩).run P w:=by rfl
 rw[e5];unfold loadVar;simp only[Sem.run_bind,e1,e2,Result.andThen,if_true];have e7:(loadCells (⟨b,o,none⟩:Addr) 2).run P w=.ok #[u,v] w:=e3;simp[e7,Result.andThen]
theorem gx_fn {f : Nat} {fn : Func} (hf : P.funcs[f]? = some fn) (hn : (fn.name == "runtime.NumGoroutine") = false) (hb : fn.body.isNone = false) (args : Array Value) (w : World) : (callFunc f args).run P w = .ok (.enter f args) w := by
 have hn' : fn.name ≠ "runtime.NumGoroutine" := by simpa using hn
 have hb':fn.body≠none:=by intro h;rw[h]at hb;simp at hb
 simp[callFunc,hf,hn',hb',go_sem,Sem.run]
theorem ex_call {f:Nat} {l:List Operand} {ats:Array TypeId} {vs:List Value} {w:World} (ho:o.op=.call { callee:=.value (.func f),args:=l.toArray,argTypes:=ats }) (hv:ρ (.func f)=.func (.func f) #[] #[]) (hl:l.map ρ=vs)
  (he:∀ args w,(callFunc f args).run P w=.ok (.enter f args) w):(execOp ρ o).run P w=.ok (.enter f vs.toArray) w:=by
 subst hl;simp[execOp,ho,resolve,invoke,go_sem,hv,he]
theorem ex_builtin {b:Builtin} {l:List Operand} {ats:Array TypeId} {vs:List Value} {w:World} {r:Result Next} (ho:o.op=.call { callee:=.builtin b,args:=l.toArray,argTypes:=ats }) (hl:l.map ρ=vs)
  (h:∀ cs,(builtin b ats o.type cs vs.toArray).run P w=r):(execOp ρ o).run P w=r:=by
 subst hl;simp only[execOp,ho,resolve,List.map_toArray];exact h _
theorem ex_len {l:List Operand} {ats:Array TypeId} {vs:List Value} {w:World} {v:Value} (ho:o.op=.call { callee:=.builtin .len,args:=l.toArray,argTypes:=ats }) (hl:l.map ρ=vs)
  (h:(Builtin.len_ ats o.type vs.toArray).run P w=.ok v w):(execOp ρ o).run P w=.ok (.value v) w :=
 ex_builtin ho hl (fun cs=>by simp only[builtin];exact gx_val h)
theorem gx_l0:([]:List Operand).map ρ=[]:=rfl
theorem gx_l1 {x:Operand} {l:List Operand} {v:Value} {vs:List Value} (hx:ρ x=v) (hl:l.map ρ=vs):(x :: l).map ρ=v :: vs:=by simp[hx,hl]
theorem gx_p0:([]:List (Nat × Operand)).map (fun x=>(x.1,ρ x.2))=[]:=rfl
theorem gx_p1 {i:Nat} {x:Operand} {l:List (Nat × Operand)} {v:Value} {vs:List (Nat × Value)} (hx:ρ x=v) (hl:(l.map fun x=>(x.1,ρ x.2))=vs):(((i,x) :: l).map fun x=>(x.1,ρ x.2))=(i,v) :: vs:=by simp[hx,hl]
theorem rn_lss {w:World} {t:TypeId} {k:IntKind} {i j:Int} {x y:Operand}:(do eqGuard .lss t x y (.int k i) (.int k j);binOp .lss t (.int k i) (.int k j):Sem Value).run P w=.ok (.bool (decide (i < j))) w:=by simp[eqGuard,binOp,Op.intCmp]
theorem rn_leq {w:World} {t:TypeId} {k:IntKind} {i j:Int} {x y:Operand}:(do eqGuard .leq t x y (.int k i) (.int k j);binOp .leq t (.int k i) (.int k j):Sem Value).run P w=.ok (.bool (decide (i≤j))) w:=by simp[eqGuard,binOp,Op.intCmp]
theorem rn_gtr {w:World} {t:TypeId} {k:IntKind} {i j:Int} {x y:Operand}:(do eqGuard .gtr t x y (.int k i) (.int k j);binOp .gtr t (.int k i) (.int k j):Sem Value).run P w=.ok (.bool (decide (j < i))) w:=by simp[eqGuard,binOp,Op.intCmp]
theorem rn_geq {w:World} {t:TypeId} {k:IntKind} {i j:Int} {x y:Operand}:(do eqGuard .geq t x y (.int k i) (.int k j);binOp .geq t (.int k i) (.int k j):Sem Value).run P w=.ok (.bool (decide (j≤i))) w:=by simp[eqGuard,binOp,Op.intCmp]
theorem rn_eql {w:World} {t:TypeId} {k:IntKind} {i j:Int} {x y:Operand}:(do eqGuard .eql t x y (.int k i) (.int k j);binOp .eql t (.int k i) (.int k j):Sem Value).run P w=.ok (.bool (decide (i=j))) w:=by
 have e:(i == j)=decide (i=j):=by rw[Bool.eq_iff_iff];simp
 simp[eqGuard,binOp,Op.intCmp,e]
theorem rn_neq {w:World} {t:TypeId} {k:IntKind} {i j:Int} {x y:Operand}:(do eqGuard .neq t x y (.int k i) (.int k j);binOp .neq t (.int k i) (.int k j):Sem Value).run P w=.ok (.bool (!decide (i=j))) w:=by
 have e:(i != j) = !decide (i=j):=by rw[Bool.eq_iff_iff];simp
 simp[eqGuard,binOp,Op.intCmp,e]
theorem rn_lssN {w:World} {t:TypeId} {k:IntKind} {i j:Nat} {x y:Operand}:(do eqGuard .lss t x y (.int k i) (.int k j);binOp .lss t (.int k i) (.int k j):Sem Value).run P w=.ok (.bool (decide (i < j))) w:=by
 rw[rn_lss];simp
theorem rn_leqN {w:World} {t:TypeId} {k:IntKind} {i j:Nat} {x y:Operand}:(do eqGuard .leq t x y (.int k i) (.int k j);binOp .leq t (.int k i) (.int k j):Sem Value).run P w=.ok (.bool (decide (i≤j))) w:=by
 rw[rn_leq];simp
theorem rn_gtrN {w:World} {t:TypeId} {k:IntKind} {i j:Nat} {x y:Operand}:(do eqGuard .gtr t x y (.int k i) (.int k j);binOp .gtr t (.int k i) (.int k j):Sem Value).run P w=.ok (.bool (decide (j < i))) w:=by
 rw[rn_gtr];simp
theorem rn_eqlN {w:World} {t:TypeId} {k:IntKind} {i j:Nat} {x y:Operand}:(do eqGuard .eql t x y (.int k i) (.int k j);binOp .eql t (.int k i) (.int k j):Sem Value).run P w=.ok (.bool (decide (i=j))) w:=by
 rw[rn_eql];simp[Int.natCast_inj]
theorem rn_neqN {w:World} {t:TypeId} {k:IntKind} {i j:Nat} {x y:Operand}:(do eqGuard .neq t x y (.int k i) (.int k j);binOp .neq t (.int k i) (.int k j):Sem Value).run P w=.ok (.bool (!decide (i=j))) w:=by
 rw[rn_neq];simp[Int.natCast_inj]
theorem rn_beql {w:World} {t:TypeId} (u:P.underlying t=some .bool) {i j:Bool} {x y:Operand}:(do eqGuard .eql t x y (.bool i) (.bool j);binOp .eql t (.bool i) (.bool j):Sem Value).run P w=.ok (.bool (i == j)) w:=by
 cases i<;>cases j<;>go_simp
theorem rn_seql {w:World} {t:TypeId} {i j:ByteArray} {x y:Operand}:(do eqGuard .eql t x y (.string i) (.string j);binOp .eql t (.string i) (.string j):Sem Value).run P w=.ok (.bool (decide (i=j))) w:=by
 have e:(i.toList == j.toList)=decide (i=j):=by rw[Bool.eq_iff_iff];simp[gx_toListInj]
 simp[eqGuard,binOp,Op.stringOp,e]
theorem rn_sneq {w:World} {t:TypeId} {i j:ByteArray} {x y:Operand}:(do eqGuard .neq t x y (.string i) (.string j);binOp .neq t (.string i) (.string j):Sem Value).run P w=.ok (.bool (!decide (i=j))) w:=by
 have e:(i.toList == j.toList)=decide (i=j):=by rw[Bool.eq_iff_iff];simp[gx_toListInj]
 simp[eqGuard,binOp,Op.stringOp,e]
theorem rn_add {w:World} {t:TypeId} {k:IntKind} {i j c:Int} {x y:Operand} (h:k.wrap (i+j)=c):(do eqGuard .add t x y (.int k i) (.int k j);binOp .add t (.int k i) (.int k j):Sem Value).run P w=.ok (.int k c) w:=by subst h;simp[eqGuard,binOp,Op.intArith]
theorem rn_sub {w:World} {t:TypeId} {k:IntKind} {i j c:Int} {x y:Operand} (h:k.wrap (i - j)=c):(do eqGuard .sub t x y (.int k i) (.int k j);binOp .sub t (.int k i) (.int k j):Sem Value).run P w=.ok (.int k c) w:=by subst h;simp[eqGuard,binOp,Op.intArith]
theorem rn_quo {w:World} {t:TypeId} {k:IntKind} {i j c:Int} {x y:Operand} (hj:j≠0) (h:k.wrap (i.tdiv j)=c):(do eqGuard .quo t x y (.int k i) (.int k j);binOp .quo t (.int k i) (.int k j):Sem Value).run P w=.ok (.int k c) w:=by subst h;simp[eqGuard,binOp,Op.intDiv,hj]
theorem rn_rem {w:World} {t:TypeId} {k:IntKind} {i j c:Int} {x y:Operand} (hj:j≠0) (h:i.tmod j=c):(do eqGuard .rem t x y (.int k i) (.int k j);binOp .rem t (.int k i) (.int k j):Sem Value).run P w=.ok (.int k c) w:=by subst h;simp[eqGuard,binOp,Op.intDiv,hj]
end
section
variable {P:Program} {Q:Exit→Act→World→Prop} {a:Act} {w:World}
theorem gx_region {id:Nat} {l:List Oper} (h:wpList P l.toArray Q l a w):(Code.region id l.toArray false).wp P Q a w:=wp_region_lit h
theorem gx_ret (h:Q .ret a w):Code.ret.wp P Q a w:=wp_ret h
theorem gx_res {fn:Func} {t:Nat} {v:Value} (h:fn.results=#[.tmp t]) (f:a.tmps[t]?=some v):(results fn a.tmps).run P w=.ok v w:=by
 simp[results,h,Array.getD_eq_getD_getElem?,f,go_sem]
theorem gx_resc {fn:Func} {t g:Nat} {T:TypeId} {v:Value} (h:fn.results=#[.cell t T]) (f:a.tmps[t]?=some (.pointer (some ⟨g,0,none⟩))) (hl:(Instr.loadAt T (.pointer (some ⟨g,0,none⟩))).run P w=.ok v w):(results fn a.tmps).run P w=.ok v w:=by
 have hl2:(loadVar T ⟨g,0,none⟩).run P w=.ok v w:=hl;unfold results;rw[h];have ha2:asAddr (a.tmps.getD t undef)=(pure ⟨g,0,none⟩:Sem Addr):=by rw[Array.getD_eq_getD_getElem?,f];rfl
 simp only[List.mapM_toArray,List.mapM_cons,List.mapM_nil,Array.mapM_eq_mapM_toList];rw[ha2];simp[hl2,Result.andThen]
end
set_option maxRecDepth 100000
theorem ag_31 (w:World):(isAgg 31).run Tryz.prog w=.ok false w:=by kernel_rfl
theorem ag_23 (w:World):(isAgg 23).run Tryz.prog w=.ok false w:=by kernel_rfl
theorem ag_24 (w:World):(isAgg 24).run Tryz.prog w=.ok false w:=by kernel_rfl
theorem ag_30 (w:World):(isAgg 30).run Tryz.prog w=.ok false w:=by kernel_rfl
theorem ag_25 (w:World):(isAgg 25).run Tryz.prog w=.ok false w:=by kernel_rfl
theorem ag_4 (w:World):(isAgg 4).run Tryz.prog w=.ok false w:=by kernel_rfl
theorem ag_3 (w:World):(isAgg 3).run Tryz.prog w=.ok false w:=by kernel_rfl
theorem ag_9 (w:World):(isAgg 9).run Tryz.prog w=.ok false w:=by kernel_rfl
theorem ag_22 (w:World):(isAgg 22).run Tryz.prog w=.ok false w:=by kernel_rfl
theorem ag_5 (w:World):(isAgg 5).run Tryz.prog w=.ok false w:=by kernel_rfl
theorem gs1_31 (w:World):(Go.sizeOf 31).run Tryz.prog w=.ok 1 w:=by kernel_rfl
theorem gs1_23 (w:World):(Go.sizeOf 23).run Tryz.prog w=.ok 1 w:=by kernel_rfl
theorem gs1_24 (w:World):(Go.sizeOf 24).run Tryz.prog w=.ok 1 w:=by kernel_rfl
theorem gs1_30 (w:World):(Go.sizeOf 30).run Tryz.prog w=.ok 1 w:=by kernel_rfl
theorem gs1_25 (w:World):(Go.sizeOf 25).run Tryz.prog w=.ok 1 w:=by kernel_rfl
theorem gs1_4 (w:World):(Go.sizeOf 4).run Tryz.prog w=.ok 1 w:=by kernel_rfl
theorem gs1_3 (w:World):(Go.sizeOf 3).run Tryz.prog w=.ok 1 w:=by kernel_rfl
theorem gs1_9 (w:World):(Go.sizeOf 9).run Tryz.prog w=.ok 1 w:=by kernel_rfl
theorem gs1_22 (w:World):(Go.sizeOf 22).run Tryz.prog w=.ok 1 w:=by kernel_rfl
theorem gs1_5 (w:World):(Go.sizeOf 5).run Tryz.prog w=.ok 1 w:=by kernel_rfl
theorem ga_102 (w:World):(isAgg 102).run Tryz.prog w=.ok true w:=by kernel_rfl
theorem gs_102 (w:World):(Go.sizeOf 102).run Tryz.prog w=.ok 2 w:=by kernel_rfl
theorem ga_33 (w:World):(isAgg 33).run Tryz.prog w=.ok true w:=by kernel_rfl
theorem gs_33 (w:World):(Go.sizeOf 33).run Tryz.prog w=.ok 25 w:=by kernel_rfl
theorem gs_158 (w:World):(Go.sizeOf 158).run Tryz.prog w=.ok 4 w:=by kernel_rfl
theorem fa_102_0 (B o:Nat) (w:World):(Instr.fieldAt 102 (.pointer (some ⟨B,o,none⟩)) 0).run Tryz.prog w=.ok (.pointer (some ⟨B,o+0,none⟩)) w:=by
 have u:=Tryz.underlying102
 go_simp
theorem fa_102_1 (B o:Nat) (w:World):(Instr.fieldAt 102 (.pointer (some ⟨B,o,none⟩)) 1).run Tryz.prog w=.ok (.pointer (some ⟨B,o+1,none⟩)) w:=by
 have u:=Tryz.underlying102
 go_simp
theorem fa_33_0 (B o:Nat) (w:World):(Instr.fieldAt 33 (.pointer (some ⟨B,o,none⟩)) 0).run Tryz.prog w=.ok (.pointer (some ⟨B,o+0,none⟩)) w:=by
 have u:=Tryz.underlying33
 go_simp
theorem fa_33_1 (B o:Nat) (w:World):(Instr.fieldAt 33 (.pointer (some ⟨B,o,none⟩)) 1).run Tryz.prog w=.ok (.pointer (some ⟨B,o+1,none⟩)) w:=by
 have u:=Tryz.underlying33
 go_simp
theorem fa_33_2 (B o:Nat) (w:World):(Instr.fieldAt 33 (.pointer (some ⟨B,o,none⟩)) 2).run Tryz.prog w=.ok (.pointer (some ⟨B,o+2,none⟩)) w:=by
 have u:=Tryz.underlying33
 go_simp
theorem fa_33_3 (B o:Nat) (w:World):(Instr.fieldAt 33 (.pointer (some ⟨B,o,none⟩)) 3).run Tryz.prog w=.ok (.pointer (some ⟨B,o+3,none⟩)) w:=by
 have u:=Tryz.underlying33
 go_simp
theorem fa_33_4 (B o:Nat) (w:World):(Instr.fieldAt 33 (.pointer (some ⟨B,o,none⟩)) 4).run Tryz.prog w=.ok (.pointer (some ⟨B,o+4,none⟩)) w:=by
 have u:=Tryz.underlying33
 go_simp
theorem fa_33_5 (B o:Nat) (w:World):(Instr.fieldAt 33 (.pointer (some ⟨B,o,none⟩)) 5).run Tryz.prog w=.ok (.pointer (some ⟨B,o+5,none⟩)) w:=by
 have u:=Tryz.underlying33
 go_simp
theorem fa_33_6 (B o:Nat) (w:World):(Instr.fieldAt 33 (.pointer (some ⟨B,o,none⟩)) 6).run Tryz.prog w=.ok (.pointer (some ⟨B,o+6,none⟩)) w:=by
 have u:=Tryz.underlying33
 go_simp
theorem fa_33_7 (B o:Nat) (w:World):(Instr.fieldAt 33 (.pointer (some ⟨B,o,none⟩)) 7).run Tryz.prog w=.ok (.pointer (some ⟨B,o+7,none⟩)) w:=by
 have u:=Tryz.underlying33
 go_simp
theorem fa_33_8 (B o:Nat) (w:World):(Instr.fieldAt 33 (.pointer (some ⟨B,o,none⟩)) 8).run Tryz.prog w=.ok (.pointer (some ⟨B,o+8,none⟩)) w:=by
 have u:=Tryz.underlying33
 go_simp
theorem fa_33_9 (B o:Nat) (w:World):(Instr.fieldAt 33 (.pointer (some ⟨B,o,none⟩)) 9).run Tryz.prog w=.ok (.pointer (some ⟨B,o+9,none⟩)) w:=by
 have u:=Tryz.underlying33
 go_simp
theorem fa_33_10 (B o:Nat) (w:World):(Instr.fieldAt 33 (.pointer (some ⟨B,o,none⟩)) 10).run Tryz.prog w=.ok (.pointer (some ⟨B,o+10,none⟩)) w:=by
 have u:=Tryz.underlying33
 go_simp
theorem fa_33_11 (B o:Nat) (w:World):(Instr.fieldAt 33 (.pointer (some ⟨B,o,none⟩)) 11).run Tryz.prog w=.ok (.pointer (some ⟨B,o+11,none⟩)) w:=by
 have u:=Tryz.underlying33
 go_simp
theorem fa_33_12 (B o:Nat) (w:World):(Instr.fieldAt 33 (.pointer (some ⟨B,o,none⟩)) 12).run Tryz.prog w=.ok (.pointer (some ⟨B,o+12,none⟩)) w:=by
 have u:=Tryz.underlying33
 go_simp
theorem fa_33_13 (B o:Nat) (w:World):(Instr.fieldAt 33 (.pointer (some ⟨B,o,none⟩)) 13).run Tryz.prog w=.ok (.pointer (some ⟨B,o+13,none⟩)) w:=by
 have u:=Tryz.underlying33
 go_simp
theorem fa_33_14 (B o:Nat) (w:World):(Instr.fieldAt 33 (.pointer (some ⟨B,o,none⟩)) 14).run Tryz.prog w=.ok (.pointer (some ⟨B,o+14,none⟩)) w:=by
 have u:=Tryz.underlying33
 go_simp
theorem fa_33_15 (B o:Nat) (w:World):(Instr.fieldAt 33 (.pointer (some ⟨B,o,none⟩)) 15).run Tryz.prog w=.ok (.pointer (some ⟨B,o+15,none⟩)) w:=by
 have u:=Tryz.underlying33
 go_simp
theorem fa_33_16 (B o:Nat) (w:World):(Instr.fieldAt 33 (.pointer (some ⟨B,o,none⟩)) 16).run Tryz.prog w=.ok (.pointer (some ⟨B,o+16,none⟩)) w:=by
 have u:=Tryz.underlying33
 go_simp
theorem fa_33_17 (B o:Nat) (w:World):(Instr.fieldAt 33 (.pointer (some ⟨B,o,none⟩)) 17).run Tryz.prog w=.ok (.pointer (some ⟨B,o+17,none⟩)) w:=by
 have u:=Tryz.underlying33
 go_simp
theorem fa_33_18 (B o:Nat) (w:World):(Instr.fieldAt 33 (.pointer (some ⟨B,o,none⟩)) 18).run Tryz.prog w=.ok (.pointer (some ⟨B,o+18,none⟩)) w:=by
 have u:=Tryz.underlying33
 go_simp
theorem fa_33_19 (B o:Nat) (w:World):(Instr.fieldAt 33 (.pointer (some ⟨B,o,none⟩)) 19).run Tryz.prog w=.ok (.pointer (some ⟨B,o+19,none⟩)) w:=by
 have u:=Tryz.underlying33
 go_simp
theorem fa_33_20 (B o:Nat) (w:World):(Instr.fieldAt 33 (.pointer (some ⟨B,o,none⟩)) 20).run Tryz.prog w=.ok (.pointer (some ⟨B,o+20,none⟩)) w:=by
 have u:=Tryz.underlying33
 go_simp
theorem fa_33_21 (B o:Nat) (w:World):(Instr.fieldAt 33 (.pointer (some ⟨B,o,none⟩)) 21).run Tryz.prog w=.ok (.pointer (some ⟨B,o+21,none⟩)) w:=by
 have u:=Tryz.underlying33
 go_simp
theorem fa_33_22 (B o:Nat) (w:World):(Instr.fieldAt 33 (.pointer (some ⟨B,o,none⟩)) 22).run Tryz.prog w=.ok (.pointer (some ⟨B,o+22,none⟩)) w:=by
 have u:=Tryz.underlying33
 go_simp
theorem fa_33_23 (B o:Nat) (w:World):(Instr.fieldAt 33 (.pointer (some ⟨B,o,none⟩)) 23).run Tryz.prog w=.ok (.pointer (some ⟨B,o+23,none⟩)) w:=by
 have u:=Tryz.underlying33
 go_simp
theorem fa_33_24 (B o:Nat) (w:World):(Instr.fieldAt 33 (.pointer (some ⟨B,o,none⟩)) 24).run Tryz.prog w=.ok (.pointer (some ⟨B,o+24,none⟩)) w:=by
 have u:=Tryz.underlying33
 go_simp
theorem fa_92_2 (B o:Nat) (w:World):(Instr.fieldAt 92 (.pointer (some ⟨B,o,none⟩)) 2).run Tryz.prog w=.ok (.pointer (some ⟨B,o+2,none⟩)) w:=by
 have u:=Tryz.underlying92
 go_simp
theorem fa_92_3 (B o:Nat) (w:World):(Instr.fieldAt 92 (.pointer (some ⟨B,o,none⟩)) 3).run Tryz.prog w=.ok (.pointer (some ⟨B,o+3,none⟩)) w:=by
 have u:=Tryz.underlying92
 go_simp
theorem fa_97_0 (B o:Nat) (w:World):(Instr.fieldAt 97 (.pointer (some ⟨B,o,none⟩)) 0).run Tryz.prog w=.ok (.pointer (some ⟨B,o+0,none⟩)) w:=by
 have u:=Tryz.underlying97
 go_simp
theorem fa_97_1 (B o:Nat) (w:World):(Instr.fieldAt 97 (.pointer (some ⟨B,o,none⟩)) 1).run Tryz.prog w=.ok (.pointer (some ⟨B,o+1,none⟩)) w:=by
 have u:=Tryz.underlying97
 go_simp
theorem fa_27_0 (B o:Nat) (w:World):(Instr.fieldAt 27 (.pointer (some ⟨B,o,none⟩)) 0).run Tryz.prog w=.ok (.pointer (some ⟨B,o+0,none⟩)) w:=by
 have u:=Tryz.underlying27
 go_simp
theorem fa_27_1 (B o:Nat) (w:World):(Instr.fieldAt 27 (.pointer (some ⟨B,o,none⟩)) 1).run Tryz.prog w=.ok (.pointer (some ⟨B,o+1,none⟩)) w:=by
 have u:=Tryz.underlying27
 go_simp
theorem fa_27_2 (B o:Nat) (w:World):(Instr.fieldAt 27 (.pointer (some ⟨B,o,none⟩)) 2).run Tryz.prog w=.ok (.pointer (some ⟨B,o+2,none⟩)) w:=by
 have u:=Tryz.underlying27
 go_simp
theorem fa_27_3 (B o:Nat) (w:World):(Instr.fieldAt 27 (.pointer (some ⟨B,o,none⟩)) 3).run Tryz.prog w=.ok (.pointer (some ⟨B,o+3,none⟩)) w:=by
 have u:=Tryz.underlying27
 go_simp
theorem fa_27_4 (B o:Nat) (w:World):(Instr.fieldAt 27 (.pointer (some ⟨B,o,none⟩)) 4).run Tryz.prog w=.ok (.pointer (some ⟨B,o+4,none⟩)) w:=by
 have u:=Tryz.underlying27
 go_simp
theorem fa_27_5 (B o:Nat) (w:World):(Instr.fieldAt 27 (.pointer (some ⟨B,o,none⟩)) 5).run Tryz.prog w=.ok (.pointer (some ⟨B,o+5,none⟩)) w:=by
 have u:=Tryz.underlying27
 go_simp
theorem fa_27_6 (B o:Nat) (w:World):(Instr.fieldAt 27 (.pointer (some ⟨B,o,none⟩)) 6).run Tryz.prog w=.ok (.pointer (some ⟨B,o+6,none⟩)) w:=by
 have u:=Tryz.underlying27
 go_simp
theorem fa_27_7 (B o:Nat) (w:World):(Instr.fieldAt 27 (.pointer (some ⟨B,o,none⟩)) 7).run Tryz.prog w=.ok (.pointer (some ⟨B,o+7,none⟩)) w:=by
 have u:=Tryz.underlying27
 go_simp
theorem fa_27_8 (B o:Nat) (w:World):(Instr.fieldAt 27 (.pointer (some ⟨B,o,none⟩)) 8).run Tryz.prog w=.ok (.pointer (some ⟨B,o+8,none⟩)) w:=by
 have u:=Tryz.underlying27
 go_simp
theorem fa_27_9 (B o:Nat) (w:World):(Instr.fieldAt 27 (.pointer (some ⟨B,o,none⟩)) 9).run Tryz.prog w=.ok (.pointer (some ⟨B,o+9,none⟩)) w:=by
 have u:=Tryz.underlying27
 go_simp
theorem fa_27_10 (B o:Nat) (w:World):(Instr.fieldAt 27 (.pointer (some ⟨B,o,none⟩)) 10).run Tryz.prog w=.ok (.pointer (some ⟨B,o+10,none⟩)) w:=by
 have u:=Tryz.underlying27
 go_simp
theorem fa_27_11 (B o:Nat) (w:World):(Instr.fieldAt 27 (.pointer (some ⟨B,o,none⟩)) 11).run Tryz.prog w=.ok (.pointer (some ⟨B,o+11,none⟩)) w:=by
 have u:=Tryz.underlying27
 go_simp
theorem fa_27_12 (B o:Nat) (w:World):(Instr.fieldAt 27 (.pointer (some ⟨B,o,none⟩)) 12).run Tryz.prog w=.ok (.pointer (some ⟨B,o+12,none⟩)) w:=by
 have u:=Tryz.underlying27
 go_simp
theorem fa_27_13 (B o:Nat) (w:World):(Instr.fieldAt 27 (.pointer (some ⟨B,o,none⟩)) 13).run Tryz.prog w=.ok (.pointer (some ⟨B,o+13,none⟩)) w:=by
 have u:=Tryz.underlying27
 go_simp
theorem fa_27_14 (B o:Nat) (w:World):(Instr.fieldAt 27 (.pointer (some ⟨B,o,none⟩)) 14).run Tryz.prog w=.ok (.pointer (some ⟨B,o+14,none⟩)) w:=by
 have u:=Tryz.underlying27
 go_simp
theorem fa_27_15 (B o:Nat) (w:World):(Instr.fieldAt 27 (.pointer (some ⟨B,o,none⟩)) 15).run Tryz.prog w=.ok (.pointer (some ⟨B,o+15,none⟩)) w:=by
 have u:=Tryz.underlying27
 go_simp
theorem fa_27_16 (B o:Nat) (w:World):(Instr.fieldAt 27 (.pointer (some ⟨B,o,none⟩)) 16).run Tryz.prog w=.ok (.pointer (some ⟨B,o+16,none⟩)) w:=by
 have u:=Tryz.underlying27
 go_simp
theorem fa_27_17 (B o:Nat) (w:World):(Instr.fieldAt 27 (.pointer (some ⟨B,o,none⟩)) 17).run Tryz.prog w=.ok (.pointer (some ⟨B,o+17,none⟩)) w:=by
 have u:=Tryz.underlying27
 go_simp
theorem fa_27_18 (B o:Nat) (w:World):(Instr.fieldAt 27 (.pointer (some ⟨B,o,none⟩)) 18).run Tryz.prog w=.ok (.pointer (some ⟨B,o+18,none⟩)) w:=by
 have u:=Tryz.underlying27
 go_simp
theorem fa_27_19 (B o:Nat) (w:World):(Instr.fieldAt 27 (.pointer (some ⟨B,o,none⟩)) 19).run Tryz.prog w=.ok (.pointer (some ⟨B,o+19,none⟩)) w:=by
 have u:=Tryz.underlying27
 go_simp
theorem fa_27_20 (B o:Nat) (w:World):(Instr.fieldAt 27 (.pointer (some ⟨B,o,none⟩)) 20).run Tryz.prog w=.ok (.pointer (some ⟨B,o+20,none⟩)) w:=by
 have u:=Tryz.underlying27
 go_simp
theorem fa_27_21 (B o:Nat) (w:World):(Instr.fieldAt 27 (.pointer (some ⟨B,o,none⟩)) 21).run Tryz.prog w=.ok (.pointer (some ⟨B,o+21,none⟩)) w:=by
 have u:=Tryz.underlying27
 go_simp
theorem fa_27_22 (B o:Nat) (w:World):(Instr.fieldAt 27 (.pointer (some ⟨B,o,none⟩)) 22).run Tryz.prog w=.ok (.pointer (some ⟨B,o+22,none⟩)) w:=by
 have u:=Tryz.underlying27
 go_simp
theorem fa_27_23 (B o:Nat) (w:World):(Instr.fieldAt 27 (.pointer (some ⟨B,o,none⟩)) 23).run Tryz.prog w=.ok (.pointer (some ⟨B,o+23,none⟩)) w:=by
 have u:=Tryz.underlying27
 go_simp
theorem fa_27_24 (B o:Nat) (w:World):(Instr.fieldAt 27 (.pointer (some ⟨B,o,none⟩)) 24).run Tryz.prog w=.ok (.pointer (some ⟨B,o+24,none⟩)) w:=by
 have u:=Tryz.underlying27
 go_simp
theorem al_102 (w:World):(Instr.alloc 102 true (.tuple #[])).run Tryz.prog w=.ok (.pointer (some ⟨w.heap.size,0,none⟩)) (w.alloc (.cells #[(.string ⟨#[]⟩),(.int .u8 0)] 102)):=by kernel_rfl
theorem al_33 (w:World):(Instr.alloc 33 true (.tuple #[])).run Tryz.prog w=.ok (.pointer (some ⟨w.heap.size,0,none⟩)) (w.alloc (.cells zeroPk 33)):=by kernel_rfl
theorem al_158 (w:World):(Instr.alloc 158 true (.tuple #[])).run Tryz.prog w=.ok (.pointer (some ⟨w.heap.size,0,none⟩)) (w.alloc (.cells #[(.int .u8 0),(.int .u32 0),(.string ⟨#[]⟩),(.string ⟨#[]⟩)] 158)):=by kernel_rfl
open Go.RowKit Go.ChangeShapes Go.WideShapes Go.Deep
structure IsBytes (w:World) (a:Option Addr) (len cap:Nat) (l:List UInt8):Prop where
 hlen:l.length=len
 hrow:Row w a (B8 l)
 hle:len≤cap
 hcap:cap≤maxLen
 hnil:a=none→len=0∧cap=0
theorem IsRow.bytes {w:World} {a:Option Addr} {len cap:Nat} {zs:List Int} (h:IsRow .u8 w a len cap zs):IsBytes w a len cap ((zs.take len).map byteOf):=by
 obtain ⟨hrow,hlen,hlc,hcm,hn,hwf⟩:=h.row;rw[ints_bytes hwf]at hrow;exact ⟨by simpa using hlen,hrow,hlc,hcm,(fun h=>by have:=hn h;omega)⟩
structure IsPk (w:World) (p:Pk) (s:Sl):Prop where
 hkind:(Lit.int .i64 p.kind).wf=true
 hqos:p.qos < 256
 hid:p.id < 65536
 hkeep:p.keep < 65536
 hwillQoS:p.willQoS < 256
 hcode:p.code < 256
 hclient:p.client.size≤maxLen
 hwillTopic:p.willTopic.size≤maxLen
 hwillLoad:p.willLoad.size≤maxLen
 huser:p.user.size≤maxLen
 hpass:p.pass.size≤maxLen
 htopic:p.topic.size≤maxLen
 hload:p.load.size≤maxLen
 hw:IsProps w s.wa p.willProps.length s.wc p.willProps
 hf:IsFilts w s.fa p.filters.length s.fc p.filters
 hc:IsBytes w s.ca p.codes.length s.cc p.codes
 hp:IsProps w s.pa p.props.length s.pc p.props
section
variable {H:Type} {enc:TypeId × Value→H} {w:World} {base:Nat} {spare:Nat→Bool} {held:Bool}
end
end Go.Proofs.YtdeecgmihfakgaaGreatDoor
namespace Go.Proofs.YtdeecgmihfakgaaGreatDoor
open Go.RowKit Go.ChangeShapes Go.WideShapes Go.Deep
set_option linter.unusedVariables false
set_option linter.unusedSimpArgs false
set_option maxRecDepth 100000
section
variable {H:Type} {enc:TypeId × Value→H} {w:World} {base:Nat} {spare:Nat→Bool} {held:Bool}
end
end Go.Proofs.YtdeecgmihfakgaaGreatDoor
