import Derived.OrdersHeld
import Derived.WalkKit
import Derived.WalkSpells
import Derived.WalkLawsBesides
import Derived.Deep.AppendLies
import Derived.Deep.Draws
import Derived.Lib.Hide
import Derived.Lib.AppendStr
import Derived.Laws.AppendOwnNone
import Derived.OpenShut
namespace Go.Proofs.YtofjhopecfmbcaaGreatDoor
open Go.RowKit
set_option linter.unusedVariables false
set_option linter.unusedSimpArgs false
def Row (w:World) (a:Option Addr) (xs:List Value):Prop :=
 xs=[]∨∃ b off,a=some ⟨b,off,none⟩∧b < w.heap.size∧∀ j u,xs[j]?=some u→w.cell? ⟨b,off+j,none⟩=some u
structure Kept (S:Nat→Prop) (w w':World):Prop where
 os:w'.os=w.os
 tape:w'.tape=w.tape
 output:w'.output=w.output
 size:w.heap.size≤w'.heap.size
 block:∀ k,k < w.heap.size→¬ S k→w'.heap[k]?=w.heap[k]?
def No:Nat→Prop:=fun _=>False
def One (b:Nat):Nat→Prop:=fun k=>k=b
variable {w w' w'':World} {S T:Nat→Prop}
theorem Kept.refl (S:Nat→Prop) (w:World):Kept S w w:=⟨rfl,rfl,rfl,Nat.le_refl _,fun _ _ _=>rfl⟩
theorem Kept.trans (h:Kept S w w') (k:Kept S w' w''):Kept S w w'' :=
 ⟨k.os.trans h.os,k.tape.trans h.tape,k.output.trans h.output,Nat.le_trans h.size k.size,fun i hi hn=>(k.block i (Nat.lt_of_lt_of_le hi h.size) hn).trans (h.block i hi hn)⟩
theorem Kept.mono (h:Kept S w w') (hs:∀ k,k < w.heap.size→S k→T k):Kept T w w' :=
 ⟨h.os,h.tape,h.output,h.size,fun i hi hn=>h.block i hi fun hk=>hn (hs i hi hk)⟩
theorem Kept.any (h:Kept No w w'):Kept T w w':=h.mono fun _ _ f=>f.elim
theorem Kept.drew (h:Kept S w w'):Kept S w w'.drew:=⟨h.os,h.tape,h.output,h.size,h.block⟩
theorem Kept.drewN (h:Kept S w w') (n:Nat):Kept S w (w'.drewN n):=⟨h.os,h.tape,h.output,h.size,h.block⟩
theorem Kept.alloc (h:Kept S w w') (o:Obj):Kept S w (w'.alloc o) :=
 h.trans ⟨rfl,rfl,rfl,by simp,fun k hk _=>Below.heap_alloc _ _ _ hk⟩
theorem Kept.setCell (h:Kept S w w') {p:Addr} (hp:w.heap.size≤p.block∨S p.block) (u:Value):Kept S w (w'.setCell p u):=by
 refine ⟨h.os,h.tape,h.output,by simpa [World.setCell] using h.size,fun k hk hn=>?_⟩;rw[Below.heap_setCell _ _ _ _ (by rintro rfl;exact hp.elim (fun q=>by omega) hn)];exact h.block k hk hn
theorem Kept.grown {row:Option Nat} (h:Kept S w w') (hg:w'.grownBy w'' row) (hr:∀ k,row=some k→w.heap.size≤k∨S k):Kept S w w'' :=
 ⟨hg.os.trans h.os,hg.tape.trans h.tape,hg.output.trans h.output,Nat.le_trans h.size hg.size,fun k hk hn =>
  (hg.block k (Nat.lt_of_lt_of_le hk h.size) (fun e=>by exact (hr k e.symm).elim (fun q=>by omega) hn)).trans (h.block k hk hn)⟩
theorem Kept.below {B:Nat} (h:Kept S w w') (hB:B≤w.heap.size) (hs:∀ k,k < B→¬ S k):Below B w w' :=
 ⟨h.os,h.tape,h.output,h.size,fun k hk=>h.block k (Nat.lt_of_lt_of_le hk hB) (hs k hk)⟩
theorem Kept.cell (h:Kept S w w') {p:Addr} (hp:p.block < w.heap.size) (hn:¬ S p.block):w'.cell? p=w.cell? p:=World.cell?_of_block (w:=w) (h.block p.block hp hn)
theorem Kept.frozen (h:Kept S w w') {p:Addr} (hp:p.block < w.heap.size) (hn:¬ S p.block):w'.frozen? p=w.frozen? p:=World.frozen?_of_block (w:=w) (h.block p.block hp hn)
theorem Kept.then (h:Kept S w w') (k:Kept T w' w'') (hs:∀ i,i < w.heap.size→T i→S i):Kept S w w'' :=
 ⟨k.os.trans h.os,k.tape.trans h.tape,k.output.trans h.output,Nat.le_trans h.size k.size,fun i hi hn=>(k.block i (Nat.lt_of_lt_of_le hi h.size) fun ht=>hn (hs i hi ht)).trans (h.block i hi hn)⟩
def Blk (w:World) (g:Nat) (t:TypeId) (cs:Array Value):Prop:=w.heap[g]?=some (.cells cs t (0,0))
section
variable {g:Nat} {t:TypeId} {cs:Array Value}
theorem Blk.lt (h:Blk w g t cs):g < w.heap.size:=(Array.getElem?_eq_some_iff.1 h).1
theorem Blk.cell (h:Blk w g t cs) (i:Nat):w.cell? ⟨g,i,none⟩=cs[i]?:=by unfold Blk at h;simp[World.cell?,h]
theorem Blk.frozen (h:Blk w g t cs) (i:Nat):w.frozen? ⟨g,i,none⟩=false:=by unfold Blk at h;simp[World.frozen?,h]
theorem Blk.new (w:World) (t:TypeId) (cs:Array Value):Blk (w.alloc (.cells cs t)) w.heap.size t cs:=by
 show (w.heap.push _)[w.heap.size]?=_;simp
theorem Blk.drew (h:Blk w g t cs):Blk w.drew g t cs:=h
theorem Blk.drewN (h:Blk w g t cs) (n:Nat):Blk (w.drewN n) g t cs:=h
theorem Blk.alloc (h:Blk w g t cs) (o:Obj):Blk (w.alloc o) g t cs:=(Below.heap_alloc w o g h.lt).trans h
theorem Blk.set_ (h:Blk w g t cs) (i:Nat) (u:Value):Blk (w.setCell ⟨g,i,none⟩ u) g t (cs.setIfInBounds i u):=by
 unfold Blk at h ⊢;simp[World.setCell,Array.getElem?_modify,h]
theorem Blk.far (h:Blk w g t cs) {p:Addr} (hp:g≠p.block) (u:Value):Blk (w.setCell p u) g t cs:=(Below.heap_setCell w p u g hp).trans h
theorem Blk.kept (h:Blk w g t cs) (hk:Kept S w w') (hg:¬ S g):Blk w' g t cs:=(hk.block g h.lt hg).trans h
theorem Blk.grown {row:Option Nat} (h:Blk w g t cs) (hb:w.grownBy w' row) (hg:row≠some g):Blk w' g t cs:=(hb.block g h.lt (fun e=>hg e.symm)).trans h
end
section
variable {a:Option Addr} {xs:List Value}
theorem Row.nil (w:World) (a:Option Addr):Row w a []:=.inl rfl
theorem Row.at_ (h:Row w a xs) {k:Nat} (hk:k < xs.length):∃ b off,a=some ⟨b,off,none⟩∧b < w.heap.size∧w.cell? ⟨b,off+k,none⟩=some xs[k]:=by
 rcases h with rfl|⟨b,off,ha,hb,hc⟩
 ·simp at hk
 ·exact ⟨b,off,ha,hb,hc k _ (List.getElem?_eq_getElem hk)⟩
theorem Row.kept (h:Row w a xs) (hk:Kept S w w') (hS:∀ b off,a=some ⟨b,off,none⟩→xs≠[]→¬ S b):Row w' a xs:=by
 rcases h with rfl|⟨b,off,ha,hb,hc⟩
 ·exact .inl rfl
 ·by_cases hx:xs=[]
  ·exact .inl hx
  ·exact .inr ⟨b,off,ha,Nat.lt_of_lt_of_le hb hk.size,fun j u hj=>(hk.cell (p:=⟨b,off+j,none⟩) hb (hS b off ha hx)).trans (hc j u hj)⟩
theorem Row.keptNo (h:Row w a xs) (hk:Kept No w w'):Row w' a xs:=h.kept hk fun _ _ _ _ f=>f
theorem Row.drop (h:Row w a xs) {k cap:Nat} (hc:xs.length≤cap):Row w (if cap=k then a else a.map (·.add k)) (xs.drop k):=by
 by_cases hk:xs.length≤k
 ·exact .inl (List.drop_eq_nil_of_le hk)
 rcases h with rfl|⟨b,off,rfl,hb,hcl⟩
 ·exact .inl (by simp)
 ·rw[if_neg (by omega)]
  refine .inr ⟨b,off+k,?_,hb,fun j u hj=>?_⟩
  ·simp only[Option.map_some,Addr.add]
   split
   ·subst_vars;rfl
   ·rfl
  ·rw[List.getElem?_drop]at hj
   rw[Nat.add_assoc];exact hcl _ u hj
theorem Row.take (h:Row w a xs) (k:Nat):Row w a (xs.take k):=by
 rcases h with rfl|⟨b,off,ha,hb,hc⟩
 ·exact .inl (by simp)
 ·refine .inr ⟨b,off,ha,hb,fun j u hj=>hc j u ?_⟩
  rw[List.getElem?_take]at hj
  split at hj
  ·exact hj
  ·cases hj
theorem Row.at_add (h:Row w a xs):∀ ad,a=some ad→∀ j u,xs[j]?=some u→w.cell? (ad.add j)=some u:=by
 intro ad had j u hj;rcases h with rfl|⟨b,off,ha,_,hc⟩
 ·simp at hj
 ·rw[had]at ha
  obtain rfl:=Option.some.inj ha;rw[Addr.add_lit];exact hc j u hj
theorem Row.of_own {base:Nat} {e:TypeId} {n cap:Nat} {g:Nat} (h:w.ownsRow base e 1 (.slice (some ⟨g,0,none⟩) n cap) n xs):Row w (some ⟨g,0,none⟩) xs:=by
 refine .inr ⟨g,0,rfl,(h.lt g rfl).2,fun j u hj=>?_⟩
 have:=h.cells (g:=g) rfl j u hj
 rwa [Addr.add_lit]at this
end
def B8 (l:List UInt8):List Value:=l.map fun c=>Value.int .u8 c.toNat
theorem B8_one (l:List UInt8):∀ u∈B8 l,u.oneCell'=true:=by
 intro u hu;obtain ⟨_,_,rfl⟩:=List.mem_map.1 hu
 rfl
@[simp] theorem B8_length (l:List UInt8):(B8 l).length=l.length:=by simp[B8]
theorem B8_append (l m:List UInt8):B8 (l++m)=B8 l++B8 m:=by simp[B8]
theorem B8_drop (l:List UInt8) (k:Nat):B8 (l.drop k)=(B8 l).drop k:=by simp[B8]
theorem B8_take (l:List UInt8) (k:Nat):B8 (l.take k)=(B8 l).take k:=by simp[B8]
theorem B8_get (l:List UInt8) (k:Nat) (h:k < l.length):(B8 l)[k]?=some (.int .u8 (l[k]).toNat):=by simp[B8,h]
def byteOf (n:Int):UInt8:=UInt8.ofNat n.toNat
theorem byteOf_val {n:Int} (h0:0≤n) (h1:n≤255):((byteOf n).toNat:Int)=n:=by
 unfold byteOf;rw[UInt8.toNat_ofNat_of_lt' (by show n.toNat < 256;omega)];omega
theorem new_cells (w:World) (t:TypeId) (xs:List Value):∀ ad,some (⟨w.heap.size,0,none⟩:Addr)=some ad→∀ j u,xs[j]?=some u→(w.alloc (.cells xs.toArray t)).cell? (ad.add j)=some u:=by
 intro ad had j u hu;obtain rfl:=Option.some.inj had;rw[Addr.add_lit,(Blk.new w t xs.toArray).cell];simpa using hu
theorem new_of {w:World} {t:TypeId} {xs ys:List Value} (h:ys=xs):∀ ad,some (⟨w.heap.size,0,none⟩:Addr)=some ad→∀ j u,ys[j]?=some u→(w.alloc (.cells xs.toArray t)).cell? (ad.add j)=some u:=by
 subst h;exact new_cells w t ys
theorem new_at {w:World} {t:TypeId} {xs ys:List Value} (h:ys=xs):∀ j u,ys[j]?=some u→(w.alloc (.cells xs.toArray t)).cell? ((⟨w.heap.size,0,none⟩:Addr).add j)=some u:=new_of h _ rfl
theorem own_no {w:World} {base:Nat} {e:TypeId} {size n:Nat} {v:Value} {xs:List Value} (h:w.ownsRow base e size v n xs) {S:Nat→Prop}:∀ k,v.ownBlock=some k→base≤k∨S k:=fun k hk=>.inl (h.lt k hk).1
theorem byte_lt (c:UInt8):c.toNat < 256:=c.toNat_lt
theorem wpList_append_row {P:Program} (w:World) {ops:Array Oper} {rest:List Oper} {o:Oper} {a:Act} {Q:Exit→Act→World→Prop} (hgd:o.guard=none) (s x:Operand) (t:TypeId)
  (ho:o.op=.call { callee:=.builtin .append,args:=#[s,x],argTypes:=#[t,t] })
  (base:Nat) (e:TypeId) (i:TypeInfo) (z:Value) (bytes:Nat) (ht:P.underlying t=some (.slice e)) (hi:P.info? e=some i) (hz:i.zero=some z)
  (hsize:i.size=1) (hby:i.bytes=bytes) (hzs:z.cells.size=1)
  (v:Value) (n:Nat) (xs:List Value) (hs:a.eval s=v) (hown:w.ownsRow base e 1 v n xs)
  (ao:Option Addr) (m c:Nat) (news:List Value) (hx:a.eval x=.slice ao m c) (hl:news.length=m) (hr:Row w ao news) (hn:ao=none→c=0) (h1:∀ u∈news,u.oneCell'=true)
  (h63:n+m≤maxLen) (hbytes:(n+m) * bytes≤140737488355328) (hbase:base≤w.heap.size)
  (h:∀ v' w',w'.ownsRow base e 1 v' (n+m) (xs++news)→w.grownBy w' v.ownBlock→(v'=.slice none 0 0↔v=.slice none 0 0∧m=0)→wpList P ops Q rest (a.put o.dst v') w'):wpList P ops Q (o :: rest) a w:=by
 cases ao with
 | some ad=>exact wpList_append_own w hgd s x t ho base e i z 1 bytes ht hi hz hsize hby hzs (by decide) v n xs hs hown ad m c news hx (by omega) (hr.at_add ad rfl) h1 h63 hbytes hbase h
 | none =>
  have hnews:news=[]:=by rcases hr with hr|⟨_,_,hr,_⟩;exact hr;cases hr
  subst hnews;obtain rfl:m=0:=by simpa using hl.symm
  obtain rfl:=hn rfl;exact wpList_append_own_none hgd s x t ho base e i 1 ht hi v n xs hs hown hx (h v w (by simpa using hown) (World.grownBy.refl w _) (by simp))
theorem own_empty (w:World) (base:Nat) (e:TypeId) (hb:base≤w.heap.size):(w.alloc (.cells #[] e)).ownsRow base e 1 (.slice (some ⟨w.heap.size,0,none⟩) 0 0) 0 [] :=
 ⟨rfl,.inr ⟨w.heap.size,0,#[],rfl,hb,Blk.new w e #[],by omega,by simp[maxLen],rfl,rfl⟩⟩
def IsRow (k:IntKind) (w:World) (a:Option Addr) (len cap:Nat) (zs:List Int):Prop :=
 (a=none∧len=0∧cap=0∧zs=[]) ∨
 ∃ x,a=some x∧len≤cap∧cap≤maxLen∧zs.length=cap∧(∀ i,i < zs.length→w.cell? (x.add i)=some (.int k (zs.getD i 0)))∧∀ n∈zs,(Lit.int k n).wf=true
def ints (k:IntKind) (l:List Int):List Value:=l.map (Value.int k)
theorem Row.of_cells {w:World} {x:Addr} {xs:List Value} (h:∀ j u,xs[j]?=some u→w.cell? (x.add j)=some u):Row w (some x) xs:=by
 by_cases hx:xs=[]
 ·exact .inl hx
 ·obtain ⟨b,off,spot⟩:=x
  have h0:0 < xs.length:=List.length_pos_iff.2 hx;have hc:=h 0 _ (List.getElem?_eq_getElem h0);have hspot:spot=none:=by simpa [Addr.add] using World.cell?_spot hc
  subst hspot;refine .inr ⟨b,off,rfl,?_,fun j u hu=>by have:=h j u hu;rwa [Addr.add_lit]at this⟩;rcases Nat.lt_or_ge b w.heap.size with hlt|hge
  ·exact hlt
  ·have e0:((⟨b,off,none⟩:Addr).add 0)=⟨b,off,none⟩:=rfl
   rw[e0]at hc;simp[World.cell?,Array.getElem?_eq_none hge]at hc
theorem IsRow.row {k:IntKind} {w:World} {a:Option Addr} {len cap:Nat} {zs:List Int} (h:IsRow k w a len cap zs):Row w a (ints k (zs.take len))∧(zs.take len).length=len∧len≤cap∧cap≤maxLen∧(a=none→cap=0)∧∀ n∈zs.take len,(Lit.int k n).wf=true:=by
 rcases h with ⟨rfl,rfl,rfl,rfl⟩|⟨x,rfl,h1,h2,h3,h4,h5⟩
 ·exact ⟨.inl rfl,rfl,Nat.le_refl _,by simp[maxLen],fun _=>rfl,by simp⟩
 ·refine ⟨.of_cells fun j u hu=>?_,by rw[List.length_take];omega,h1,h2,by simp,fun n hn=>h5 n (List.mem_of_mem_take hn)⟩
  have hj:j < (ints k (zs.take len)).length:=(List.getElem?_eq_some_iff.1 hu).1;simp[ints]at hj;rw[h4 j (by omega)];simp only[ints,List.getElem?_map]at hu;rw[List.getElem?_take_of_lt (by omega),List.getElem?_eq_getElem (by omega)]at hu;simp only[Option.map_some,Option.some.injEq]at hu;rw[← hu,List.getD_eq_getElem?_getD,List.getElem?_eq_getElem (by omega)]
  rfl
theorem wtk {P:Program} {ops:Array Oper} {Q:Exit→Act→World→Prop} {md:Region.Mode} {S:World→Prop} {i:Nat} {oi:Oper} {v:Value} {fuel:Nat} {listed:Array Bool} {a:Act} {w:World} (hi:ops[i]?=some oi) (hy:YieldsIf P ops S oi v a) (hS:S w) (h:wpAnyH P md ops Q S fuel (listed.setIfInBounds i true) (a.put oi.dst v) w) (hs:Region.noSelect ops=true:=by kernel_rfl) (hf:Region.free md ops listed i=true:=by kernel_rfl) (hr:(Region.ready md ops listed).contains i=true:=by kernel_rfl) (hQ:∀ c a w,Q (.panic c) (a.put oi.dst v) w→Q (.panic c) a w:=by exact fun _ _ _ h=>h):wpAnyH P md ops Q S (fuel+1) listed a w:=wpAnyH_take hi hs hf hr hQ hy hS h
theorem wtu {P:Program} {ops:Array Oper} {Q:Exit→Act→World→Prop} {md:Region.Mode} {S:World→Prop} {i:Nat} {oi:Oper} {fuel:Nat} {listed:Array Bool} {a:Act} {w:World} (hi:ops[i]? = some oi) (h:wpAnyH P md ops Q S fuel (listed.setIfInBounds i true) (a.put oi.dst undef) w) (hw:Region.wanted oi (yielded ops a.tmps)=false:=by rfl) (hS:S w:=by assumption) (hs:Region.noSelect ops=true:=by kernel_rfl) (hf:Region.free md ops listed i=true:=by kernel_rfl) (hr:(Region.ready md ops listed).contains i=true:=by kernel_rfl) (hQ:∀ c a w,Q (.panic c) (a.put oi.dst undef) w→Q (.panic c) a w:=by exact fun _ _ _ h=>h):wpAnyH P md ops Q S (fuel+1) listed a w:=wpAnyH_take hi hs hf hr hQ (.inr ⟨hw,rfl⟩) hS h
theorem wtv {P:Program} {ops:Array Oper} {Q:Exit→Act→World→Prop} {md:Region.Mode} {S:World→Prop} {i:Nat} {oi:Oper} {fuel:Nat} {listed:Array Bool} {a:Act} {w:World} {v:Value} (hi:ops[i]? = some oi) (hy:∀ w,S w→(execOp a.eval oi).run P w=.ok (.value v) w) (h:wpAnyH P md ops Q S fuel (listed.setIfInBounds i true) (a.put oi.dst v) w) (hw:Region.wanted oi (yielded ops a.tmps)=true:=by rfl) (hS:S w:=by assumption) (hs:Region.noSelect ops=true:=by kernel_rfl) (hf:Region.free md ops listed i=true:=by kernel_rfl) (hr:(Region.ready md ops listed).contains i=true:=by kernel_rfl) (hQ:∀ c a w,Q (.panic c) (a.put oi.dst v) w→Q (.panic c) a w:=by exact fun _ _ _ h=>h):wpAnyH P md ops Q S (fuel+1) listed a w:=wpAnyH_take hi hs hf hr hQ (.inl ⟨hw,hy⟩) hS h
end Go.Proofs.YtofjhopecfmbcaaGreatDoor
