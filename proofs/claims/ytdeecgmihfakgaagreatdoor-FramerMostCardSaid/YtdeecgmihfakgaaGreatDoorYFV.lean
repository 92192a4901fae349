import Derived.Test.YtdeecgmihfakgaaGreatDoorYFG
import Derived.Test.YtdeecgmihfakgaaGreatDoorYF3
import Derived.Test.YtdeecgmihfakgaaGreatDoorYFC
import Derived.Test.YtdeecgmihfakgaaGreatDoorYFE
import Derived.Test.YtdeecgmihfakgaaGreatDoorYFB
namespace Go.Proofs.YtdeecgmihfakgaaGreatDoor
open Go.RowKit
set_option linter.unusedVariables false
set_option linter.unusedSimpArgs false
section
variable {w w' w0:World} {B k n b:Nat} {e t:TypeId} {v:Value} {xs:List Value} {c:Array Value}
theorem og_kept (h:w.ownsRow B e k v n xs) (hk:Kept No w w'):w'.ownsRow B e k v n xs:=own_sep h hk (fun _ _ f _=>f)
theorem og_far (h:w.ownsRow B e k v n xs) (hb:Blk w b t c) (ht:t≠e) (hk:Kept (One b) w w'):w'.ownsRow B e k v n xs:=own_blk h hb ht hk
theorem og_sv {S:Nat→Prop} (h:w.ownsRow B e k v n xs) (hne:∀ g,v.ownBlock=some g→¬ S g) (hk:Kept S w w'):w'.ownsRow B e k v n xs:=by
 refine ⟨h.1,?_⟩;rcases h.2 with h2|⟨g',cap,cur,q1,q2,q3,q4⟩
 ·exact .inl h2
 ·exact .inr ⟨g',cap,cur,q1,q2,(hk.block g' (Array.getElem?_eq_some_iff.1 q3).1 (hne g' (by rw[q1];rfl))).trans q3,q4⟩
theorem og_new (h:w.ownsRow B e k v n xs) (hne:∀ g,v.ownBlock=some g→g < b) (hk:Kept (One b) w w'):w'.ownsRow B e k v n xs :=
 og_sv h (fun g hg e=>by have e:g=b:=e;have:=hne g hg;omega) hk
theorem og_lt {b:Nat} (h:w.ownsRow B e k v n xs) (hN:w.heap.size≤b):∀ g,v.ownBlock=some g→g < b:=fun g hg=>Nat.lt_of_lt_of_le (h.lt g hg).2 hN
theorem og_base {B':Nat} (h:w.ownsRow B e k v n xs) (hB:B'≤B):w.ownsRow B' e k v n xs:=by
 refine ⟨h.1,?_⟩;rcases h.2 with h2|⟨g',cap,cur,q1,q2,q3⟩
 ·exact .inl h2
 ·exact .inr ⟨g',cap,cur,q1,Nat.le_trans hB q2,q3⟩
def Sv (v:Value):Nat→Prop:=fun g=>v.ownBlock=some g
theorem sv_type (h:w.ownsRow B e k v n xs) (hb:Blk w b t c) (ht:t≠e):¬ Sv v b:=fun hv=>by
 obtain ⟨cur,hc⟩:=own_typed h hv;unfold Blk at hb hc;rw[hb]at hc;injection hc with hc;injection hc with _ hc _;exact ht hc
theorem sv_lt (hne:∀ g,v.ownBlock=some g→g < b):¬ Sv v b:=fun hv=>by have:=hne b hv;omega
theorem fa0 {α:Type} {P:α→Prop}:∀ y∈([]:List α),P y:=by intro y hy;cases hy
theorem fa1 {α:Type} {P:α→Prop} {x:α} {l:List α} (h:P x) (k:∀ y∈l,P y):∀ y∈x :: l,P y:=by
 intro y hy;rcases List.mem_cons.1 hy with rfl|hy
 ·exact h
 ·exact k y hy
theorem Hp.grown {M:List Bk} (H:Hp w0 w M) (h:w.ownsRow w0.heap.size e k v n xs) (hg:Kept (Sv v) w w') (hS:∀ y∈M,¬ Sv v y.b):Hp w0 w' M :=
 ⟨H.k.then hg (fun i hi e=>by have:=(h.lt i e).1;omega),H.b.kept hg hS⟩
theorem kept_grown (hg:w.grownBy w' v.ownBlock):Kept (Sv v) w w':=(Kept.refl (Sv v) w).grown hg (fun k e=>.inr e)
theorem og_other {B2 k2 n2:Nat} {e2:TypeId} {v2:Value} {ys:List Value} (h:w.ownsRow B e k v n xs) (h2:w.ownsRow B2 e2 k2 v2 n2 ys) (ht:e≠e2) (hk:Kept (Sv v) w w'):w'.ownsRow B2 e2 k2 v2 n2 ys :=
 og_sv h2 (fun g hg hv=>by
  obtain ⟨c1,h1⟩:=own_typed h hv;obtain ⟨c2,h3⟩:=own_typed h2 hg;unfold Blk at h1 h3;rw[h1]at h3;injection h3 with h3;injection h3 with _ h3 _;exact ht h3) hk
theorem own_slice (h:w.ownsRow B e k v n xs):∃ a c,v=.slice a n c:=by
 rcases h.2 with ⟨rfl,rfl⟩|⟨g,cap,cur,rfl,_⟩
 ·exact ⟨none,0,rfl⟩
 ·exact ⟨_,_,rfl⟩
theorem own_nil {B:Nat} {e:TypeId} {k:Nat} (w:World):w.ownsRow B e k (.slice none 0 0) 0 []:=⟨by simp,.inl ⟨rfl,rfl⟩⟩
theorem own_made {M:List Bk} {m:Nat} (H:Hp w0 w (⟨b,e,c⟩ :: M)) (hc:c.size=m * k) (hm:m≤maxLen):w.ownsRow w0.heap.size e k (.slice (some ⟨b,0,none⟩) m m) m c.toList:=by
 have hb:=(H.b.at_ (j:=0) rfl)
 refine ⟨by simpa using hc,.inr ⟨b,m,c,rfl,hb.2,hb.1,Nat.le_refl _,hm,hc,?_⟩⟩;rw[List.take_of_length_le (by simp[hc])]
theorem blk_news (hB:Blk w b t c):∀ (j:Nat) (u:Value),c.toList[j]?=some u→w.cell? ((⟨b,0,none⟩:Addr).add j)=some u:=by
 intro j u h;have h1:=hB.cell j;rw[show (⟨b,0,none⟩:Addr).add j=⟨b,j,none⟩ from by simp[Addr.add];omega,h1];simpa using h
theorem Hp.size {M:List Bk} (H:Hp w0 w M):w0.heap.size≤w.heap.size:=H.k.size
end
section
variable {P:Program} {ops:Array Oper} {Q:Exit→Act→World→Prop} {a:Act} {w w0:World} {rest:List Oper} {N n:Nat} {L:List (Nat × Value)} {v:Value} {ty:TypeId} {ps:String} {af:Array Edge} {op:Op} {gd:Nat × Bool} {G X Y:Bool}
theorem hz_bs {M:List Bk} {c:Array Value} {t:TypeId} {m:Nat} (F:Fr a N L) (H:Hp w0 w M) (hn:Nat.blt n N=true) (h:(execOp a.eval ⟨some n,op,ty,ps,af,none⟩).run P w=.ok (.value (.slice (some ⟨w.heap.size,0,none⟩) m m)) (w.alloc (.cells c t)))
  (k:∀ (b:Nat) (w':World) (a':Act),Kept No w w'→w.heap.size≤b→Hp w0 w' (⟨b,t,c⟩ :: M)→Fr a' N ((n,.slice (some ⟨b,0,none⟩) m m) :: L)→wpList P ops Q rest a' w'):wpList P ops Q (⟨some n,op,ty,ps,af,none⟩ :: rest) a w :=
 hz_do F hn h fun a' F'=>k _ _ a' ((Kept.refl No w).alloc _) (Nat.le_refl _) (H.new t c) F'
theorem ex_buildSlice {ρ:Operand→Value} {o:Oper} {w':World} {t:TypeId} {len:Nat} {l:List (Nat × Operand)} {qs:List (Nat × Value)} (ho:o.op=.buildSlice t len l.toArray) (hl:(l.map fun x=>(x.1,ρ x.2))=qs) (h:(Instr.buildSlice t len qs.toArray).run P w=.ok v w'):(execOp ρ o).run P w=.ok (.value v) w':=by
 subst hl;simp only[execOp,ho,List.map_toArray];exact gx_val h
theorem hz_cut {x y:Code} (M:Act→World→Prop) (h2:∀ a w,M a w→y.wp P Q a w) (h1:∀ K:Act→World→Prop,(∀ a w,M a w→K a w)→x.wp P (Exit.then K Q) a w):(Code.seq x y).wp P Q a w :=
 wp_seq_k fun K hK=>h1 K fun a' w' h=>hK _ _ (h2 a' w' h)
theorem ex_min {ρ:Operand→Value} {o:Oper} {l:List Operand} {ats:Array TypeId} {vs:List Value} (ho:o.op=.call { callee:=.builtin .min,args:=l.toArray,argTypes:=ats }) (hl:l.map ρ=vs)
  (h:∀ cs,(builtin .min ats o.type cs vs.toArray).run P w=.ok (.value v) w):(execOp ρ o).run P w=.ok (.value v) w:=ex_builtin ho hl h
variable {md:Region.Mode} {S:World→Prop} {fuel:Nat} {listed:Array Bool} {i:Nat}
theorem hzh_new {w':World} (F:Fr a N L) (hn:Nat.blt n N=true) (hi:ops[i]?=some ⟨some n,op,ty,ps,af,none⟩) (hr:Region.ready md ops listed=[i])
  (h:(execOp a.eval ⟨some n,op,ty,ps,af,none⟩).run P w=.ok (.value v) w') (hS:S w') (k:∀ a':Act,Fr a' N ((n,v) :: L)→wpAnyH P md ops Q S fuel (listed.setIfInBounds i true) a' w'):wpAnyH P md ops Q S (fuel+1) listed a w:=by
 refine gxh_one hi hr (gx_w rfl) ?_;unfold Oper.wp;rw[h];exact ⟨hS,k _ (F.put hn v)⟩
theorem hzh_blk {M:List Bk} {c:Array Value} {t:TypeId} (F:Fr a N L) (H:Hp w0 w M) (hn:Nat.blt n N=true) (hi:ops[i]?=some ⟨some n,op,ty,ps,af,none⟩) (hr:Region.ready md ops listed=[i]) (mk:Nat→Value)
  (h:(execOp a.eval ⟨some n,op,ty,ps,af,none⟩).run P w=.ok (.value (mk w.heap.size)) (w.alloc (.cells c t))) (hS:∀ w',Hp w0 w' M→S w')
  (k:∀ (b:Nat) (w':World) (a':Act),Kept No w w'→w.heap.size≤b→Hp w0 w' (⟨b,t,c⟩ :: M)→Fr a' N ((n,mk b) :: L)→wpAnyH P md ops Q S fuel (listed.setIfInBounds i true) a' w'):wpAnyH P md ops Q S (fuel+1) listed a w :=
 hzh_new F hn hi hr h (hS _ (H.new t c).tl) fun a' F'=>k _ _ a' ((Kept.refl No w).alloc _) (Nat.le_refl _) (H.new t c) F'
end
section
variable {P:Program} {ops:Array Oper} {Q:Exit→Act→World→Prop} {a:Act} {w w0:World} {N n:Nat} {L:List (Nat × Value)} {v:Value} {ty:TypeId} {ps:String} {af:Array Edge} {op:Op} {gd:Nat × Bool}
variable {md:Region.Mode} {S:World→Prop} {fuel:Nat} {listed:Array Bool} {i j m:Nat}
theorem hb_new {w':World} (F:Fr a N L) (hn:Nat.blt n N=true) (hi:ops[i]?=some ⟨some n,op,ty,ps,af,none⟩)
  (h:(execOp a.eval ⟨some n,op,ty,ps,af,none⟩).run P w=.ok (.value v) w') (hS:S w') (k:∀ a':Act,Fr a' N ((n,v) :: L)→wpAnyH P md ops Q S fuel (listed.setIfInBounds i true) a' w') :
  wpOp P ops Q i (fun a' w'=>S w'∧wpAnyH P md ops Q S fuel (listed.setIfInBounds i true) a' w') a w:=by
 unfold wpOp;simp only[hi];rw[if_pos (gx_w rfl)];left;unfold Oper.wp;rw[h];exact ⟨hS,k _ (F.put hn v)⟩
theorem hb_st {w':World} (hi:ops[i]?=some ⟨none,op,ty,ps,af,none⟩)
  (h:(execOp a.eval ⟨none,op,ty,ps,af,none⟩).run P w=.ok .skip w') (hS:S w') (k:wpAnyH P md ops Q S fuel (listed.setIfInBounds i true) a w') :
  wpOp P ops Q i (fun a' w'=>S w'∧wpAnyH P md ops Q S fuel (listed.setIfInBounds i true) a' w') a w:=by
 unfold wpOp;simp only[hi];rw[if_pos (gx_w rfl)];left;unfold Oper.wp;rw[h];exact ⟨hS,k⟩
theorem hb_callk {f:Nat} {args:Array Value} (F:Fr a N L) (hn:Nat.blt n N=true) (hi:ops[i]?=some ⟨some n,op,ty,ps,af,none⟩)
  (h:(execOp a.eval ⟨some n,op,ty,ps,af,none⟩).run P w=.ok (.enter f args) w) (hc:Calls P f args w fun e w'=>e=.returned v∧Kept No w w') (hS:∀ w',Kept No w w'→S w')
  (k:∀ (w':World) (a':Act),Kept No w w'→S w'→Fr a' N ((n,v) :: L)→wpAnyH P md ops Q S fuel (listed.setIfInBounds i true) a' w') :
  wpOp P ops Q i (fun a' w'=>S w'∧wpAnyH P md ops Q S fuel (listed.setIfInBounds i true) a' w') a w:=by
 unfold wpOp;simp only[hi];rw[if_pos (gx_w rfl)];left;unfold Oper.wp;rw[h];refine hc.mono ?_;rintro e w' ⟨rfl,hk⟩;exact ⟨hS w' hk,k w' _ hk (hS w' hk) (F.put hn v)⟩
theorem hb_call {f:Nat} {args:Array Value} {R:Value→World→Prop} (F:Fr a N L) (hn:Nat.blt n N=true) (hi:ops[i]?=some ⟨some n,op,ty,ps,af,none⟩)
  (h:(execOp a.eval ⟨some n,op,ty,ps,af,none⟩).run P w=.ok (.enter f args) w) (hc:Calls P f args w fun e w'=>∃ v,e=.returned v∧R v w'∧Kept No w w') (hS:∀ w',Kept No w w'→S w')
  (k:∀ (v:Value) (w':World) (a':Act),R v w'→Kept No w w'→S w'→Fr a' N ((n,v) :: L)→wpAnyH P md ops Q S fuel (listed.setIfInBounds i true) a' w') :
  wpOp P ops Q i (fun a' w'=>S w'∧wpAnyH P md ops Q S fuel (listed.setIfInBounds i true) a' w') a w:=by
 unfold wpOp;simp only[hi];rw[if_pos (gx_w rfl)];left;unfold Oper.wp;rw[h];refine hc.mono ?_;rintro e w' ⟨v,rfl,hR,hk⟩;exact ⟨hS w' hk,k v w' _ hR hk (hS w' hk) (F.put hn v)⟩
theorem hb_blk {M:List Bk} {c:Array Value} {t:TypeId} (mk:Nat→Value) (F:Fr a N L) (H:Hp w0 w M) (hn:Nat.blt n N=true) (hi:ops[i]?=some ⟨some n,op,ty,ps,af,none⟩)
  (h:(execOp a.eval ⟨some n,op,ty,ps,af,none⟩).run P w=.ok (.value (mk w.heap.size)) (w.alloc (.cells c t))) (hS:∀ (b:Nat) (w':World),Hp w0 w' (⟨b,t,c⟩ :: M)→S w')
  (k:∀ (b:Nat) (w':World) (a':Act),Kept No w w'→w.heap.size≤b→Hp w0 w' (⟨b,t,c⟩ :: M)→Fr a' N ((n,mk b) :: L)→wpAnyH P md ops Q S fuel (listed.setIfInBounds i true) a' w') :
  wpOp P ops Q i (fun a' w'=>S w'∧wpAnyH P md ops Q S fuel (listed.setIfInBounds i true) a' w') a w :=
 hb_new F hn hi h (hS _ _ (H.new t c)) fun a' F'=>k _ _ a' ((Kept.refl No w).alloc _) (Nat.le_refl _) (H.new t c) F'
theorem hb_one (hr:Region.ready md ops listed=[i]) (h:wpOp P ops Q i (fun a' w'=>S w'∧wpAnyH P md ops Q S fuel (listed.setIfInBounds i true) a' w') a w):wpAnyH P md ops Q S (fuel+1) listed a w:=by
 refine wpAnyH_all hr (by simp) fun x hx=>?_
 obtain rfl:=List.mem_singleton.1 hx;exact h
theorem hb_two (hr:Region.ready md ops listed=[i,j]) (h:wpOp P ops Q i (fun a' w'=>S w'∧wpAnyH P md ops Q S fuel (listed.setIfInBounds i true) a' w') a w) (h2:wpOp P ops Q j (fun a' w'=>S w'∧wpAnyH P md ops Q S fuel (listed.setIfInBounds j true) a' w') a w) :
  wpAnyH P md ops Q S (fuel+1) listed a w:=by
 refine wpAnyH_all hr (by simp) fun x hx=>?_
 rcases List.mem_cons.1 hx with rfl|hx
 ·exact h
 ·obtain rfl:=List.mem_singleton.1 hx
  exact h2
end
theorem ex_minN {ρ:Operand→Value} {P:Program} {o:Oper} {w:World} {l:List Operand} {ats:Array TypeId} {k:IntKind} {m n:Nat} (ho:o.op=.call { callee:=.builtin .min,args:=l.toArray,argTypes:=ats }) (hl:l.map ρ=[.int k (m:Int),.int k (n:Int)]) :
  (execOp ρ o).run P w=.ok (.value (.int k ((min m n:Nat):Int))) w:=by
 refine ex_builtin ho hl fun cs=>?_
 simp only[builtin];refine gx_val ?_;rw[show (#[Value.int k (m:Int),Value.int k (n:Int)]:Array Value)=[Value.int k (m:Int),Value.int k (n:Int)].toArray from rfl];rw[run_min_int2]
 have:(if (n:Int) < (m:Int) then (n:Int) else (m:Int))=((min m n:Nat):Int):=by split<;>omega
 rw[this]
def cutN (n:Nat) (s:ByteArray):ByteArray:=s.extract 0 (min s.size n)
theorem cutN_len (n:Nat) (s:ByteArray):(cutN n s).size≤n:=by unfold cutN;simp;omega
theorem Row.byte_t {w:World} {a:Option Addr} {l:List UInt8} {b off k:Nat} (h:Row w a (B8 l)) (ha:a=some ⟨b,off,none⟩) (hk:k < l.length):w.cell? ⟨b,off+k * 1,none⟩=some (.int .u8 (l[k].toNat:Int)):=by
 obtain ⟨b2,o2,h2,_,h3⟩:=h.at_ (k:=k) (by simpa using hk);rw[ha]at h2;injection h2 with h2;injection h2 with e1 e2;subst e1 e2;rw[Nat.mul_one,h3];simp[B8]
theorem Row.filt_t {w:World} {a:Option Addr} {L:List Fi} {b off k:Nat} (h:Row w a (FC L)) (ha:a=some ⟨b,off,none⟩) (hk:k < L.length):w.cell? ⟨b,off+k * 2,none⟩=some (.string L[k].text):=by
 obtain ⟨b2,o2,h2,_,h3,_⟩:=h.filt hk;rw[ha]at h2;injection h2 with h2;injection h2 with e1 e2;subst e1 e2;exact h3
theorem Row.filt_o {w:World} {a:Option Addr} {L:List Fi} {b off k:Nat} (h:Row w a (FC L)) (ha:a=some ⟨b,off,none⟩) (hk:k < L.length):w.cell? ⟨b,off+k * 2+1,none⟩=some (.int .u8 (L[k].opt:Int)):=by
 obtain ⟨b2,o2,h2,_,_,h3⟩:=h.filt hk;rw[ha]at h2;injection h2 with h2;injection h2 with e1 e2;subst e1 e2;exact h3
theorem one_all {l:List Value} (h:l.all (·.oneCell')=true):∀ u∈l,u.oneCell'=true:=fun u hu=>List.all_eq_true.1 h u hu
set_option maxRecDepth 100000
class FA (T k:Nat) (off:outParam Nat):Prop where
 h:∀ (B o:Nat) (w:World),(Instr.fieldAt T (.pointer (some ⟨B,o,none⟩)) k).run Tryz.prog w=.ok (.pointer (some ⟨B,o+off,none⟩)) w
class NA (T:Nat):Prop where
 h:∀ w:World,(isAgg T).run Tryz.prog w=.ok false w
class SZ1 (T:Nat):Prop where
 h:∀ w:World,(Go.sizeOf T).run Tryz.prog w=.ok 1 w
instance:NA 31:=⟨ag_31⟩
instance:NA 23:=⟨ag_23⟩
instance:NA 24:=⟨ag_24⟩
instance:NA 30:=⟨ag_30⟩
instance:NA 25:=⟨ag_25⟩
instance:NA 4:=⟨ag_4⟩
instance:NA 3:=⟨ag_3⟩
instance:NA 9:=⟨ag_9⟩
instance:NA 22:=⟨ag_22⟩
instance:NA 5:=⟨ag_5⟩
instance:SZ1 31:=⟨gs1_31⟩
instance:SZ1 23:=⟨gs1_23⟩
instance:SZ1 24:=⟨gs1_24⟩
instance:SZ1 30:=⟨gs1_30⟩
instance:SZ1 25:=⟨gs1_25⟩
instance:SZ1 4:=⟨gs1_4⟩
instance:SZ1 3:=⟨gs1_3⟩
instance:SZ1 9:=⟨gs1_9⟩
instance:SZ1 22:=⟨gs1_22⟩
instance:SZ1 5:=⟨gs1_5⟩
instance:FA 102 0 0:=⟨fa_102_0⟩
instance:FA 102 1 1:=⟨fa_102_1⟩
instance:FA 33 0 0:=⟨fa_33_0⟩
instance:FA 33 1 1:=⟨fa_33_1⟩
instance:FA 33 2 2:=⟨fa_33_2⟩
instance:FA 33 3 3:=⟨fa_33_3⟩
instance:FA 33 4 4:=⟨fa_33_4⟩
instance:FA 33 5 5:=⟨fa_33_5⟩
instance:FA 33 6 6:=⟨fa_33_6⟩
instance:FA 33 7 7:=⟨fa_33_7⟩
instance:FA 33 8 8:=⟨fa_33_8⟩
instance:FA 33 9 9:=⟨fa_33_9⟩
instance:FA 33 10 10:=⟨fa_33_10⟩
instance:FA 33 11 11:=⟨fa_33_11⟩
instance:FA 33 12 12:=⟨fa_33_12⟩
instance:FA 33 13 13:=⟨fa_33_13⟩
instance:FA 33 14 14:=⟨fa_33_14⟩
instance:FA 33 15 15:=⟨fa_33_15⟩
instance:FA 33 16 16:=⟨fa_33_16⟩
instance:FA 33 17 17:=⟨fa_33_17⟩
instance:FA 33 18 18:=⟨fa_33_18⟩
instance:FA 33 19 19:=⟨fa_33_19⟩
instance:FA 33 20 20:=⟨fa_33_20⟩
instance:FA 33 21 21:=⟨fa_33_21⟩
instance:FA 33 22 22:=⟨fa_33_22⟩
instance:FA 33 23 23:=⟨fa_33_23⟩
instance:FA 33 24 24:=⟨fa_33_24⟩
instance:FA 92 2 2:=⟨fa_92_2⟩
instance:FA 92 3 3:=⟨fa_92_3⟩
instance:FA 97 0 0:=⟨fa_97_0⟩
instance:FA 97 1 1:=⟨fa_97_1⟩
instance:FA 27 0 0:=⟨fa_27_0⟩
instance:FA 27 1 1:=⟨fa_27_1⟩
instance:FA 27 2 2:=⟨fa_27_2⟩
instance:FA 27 3 3:=⟨fa_27_3⟩
instance:FA 27 4 4:=⟨fa_27_4⟩
instance:FA 27 5 5:=⟨fa_27_5⟩
instance:FA 27 6 6:=⟨fa_27_6⟩
instance:FA 27 7 7:=⟨fa_27_7⟩
instance:FA 27 8 8:=⟨fa_27_8⟩
instance:FA 27 9 9:=⟨fa_27_9⟩
instance:FA 27 10 10:=⟨fa_27_10⟩
instance:FA 27 11 11:=⟨fa_27_11⟩
instance:FA 27 12 12:=⟨fa_27_12⟩
instance:FA 27 13 13:=⟨fa_27_13⟩
instance:FA 27 14 14:=⟨fa_27_14⟩
instance:FA 27 15 15:=⟨fa_27_15⟩
instance:FA 27 16 16:=⟨fa_27_16⟩
instance:FA 27 17 17:=⟨fa_27_17⟩
instance:FA 27 18 18:=⟨fa_27_18⟩
instance:FA 27 19 19:=⟨fa_27_19⟩
instance:FA 27 20 20:=⟨fa_27_20⟩
instance:FA 27 21 21:=⟨fa_27_21⟩
instance:FA 27 22 22:=⟨fa_27_22⟩
instance:FA 27 23 23:=⟨fa_27_23⟩
instance:FA 27 24 24:=⟨fa_27_24⟩
section
variable {ops:Array Oper} {Q:Exit→Act→World→Prop} {a:Act} {w w0:World} {rest:List Oper} {N n:Nat} {L:List (Nat × Value)} {v:Value} {ty:TypeId} {ps:String} {af:Array Edge} {op:Op} {M:List Bk}
variable {md:Region.Mode} {S:World→Prop} {fuel:Nat} {listed:Array Bool}
theorem zd (k:∀ a':Act,Fr a' N ((n,v) :: L)→wpList Tryz.prog ops Q rest a' w) (F:Fr a N L:=by assumption) (H:Hp w0 w M:=by assumption) (hn:Nat.blt n N=true:=by rfl)
  (h:Fr a N L→Hp w0 w M→(execOp a.eval ⟨some n,op,ty,ps,af,none⟩).run Tryz.prog w=.ok (.value v) w:=by
   intro F H
   first
   | exact ex_move rfl (F.e rfl)
   | exact ex_assign rfl (F.e rfl)
   | exact ex_move rfl gx_evc
   | exact ex_assign rfl gx_evc
   | exact ex_faddr rfl (F.e rfl) (FA.h _ _ _)
   | exact ex_load rfl (F.e rfl) (gl_one (NA.h _) (H.c 0 rfl rfl))
   | exact ex_load rfl (F.e rfl) (gl_one (NA.h _) (H.c 1 rfl rfl))
   | exact ex_load rfl (F.e rfl) (gl_one (NA.h _) (H.c 2 rfl rfl))
   | exact ex_load rfl (F.e rfl) (gl_one (NA.h _) (H.c 3 rfl rfl))
   | exact ex_load rfl (F.e rfl) (gl_one (NA.h _) (H.c 4 rfl rfl))
   | exact ex_not rfl (F.e rfl)
   | exact ex_extract rfl (F.e rfl) rfl):wpList Tryz.prog ops Q (⟨some n,op,ty,ps,af,none⟩ :: rest) a w:=hz_do F hn (h F H) k
theorem zb {bo:BinOp} {t u:TypeId} {x y:Operand} {p q:Value} (hb:(do eqGuard bo t x y p q;binOp bo t p q:Sem Value).run Tryz.prog w=.ok v w) (k:∀ a':Act,Fr a' N ((n,v) :: L)→wpList Tryz.prog ops Q rest a' w) (F:Fr a N L:=by assumption) (hn:Nat.blt n N=true:=by rfl)
  (h:Fr a N L→(do eqGuard bo t x y p q;binOp bo t p q:Sem Value).run Tryz.prog w=.ok v w→(execOp a.eval ⟨some n,.binOp bo t x y u,ty,ps,af,none⟩).run Tryz.prog w=.ok (.value v) w:=by
   intro F hb
   first
   | exact ex_bin rfl (F.e rfl) gx_evc hb
   | exact ex_bin rfl (F.e rfl) (F.e rfl) hb
   | exact ex_bin rfl gx_evc (F.e rfl) hb):wpList Tryz.prog ops Q (⟨some n,.binOp bo t x y u,ty,ps,af,none⟩ :: rest) a w:=hz_do F hn (h F hb) k
theorem td (i:Nat) (k:∀ a':Act,Fr a' N ((n,v) :: L)→wpAnyH Tryz.prog md ops Q S fuel (listed.setIfInBounds i true) a' w) (F:Fr a N L:=by assumption) (hi:ops[i]?=some ⟨some n,op,ty,ps,af,none⟩:=by rfl)
  (hn:Nat.blt n N=true:=by rfl) (hr:(Region.noSelect ops&&(Region.free md ops listed i&&(Region.ready md ops listed).contains i))=true:=by kernel_rfl)
  (hQ:∀ c a w,Q (.panic c) (a.put (some n) v) w→Q (.panic c) a w:=by exact fun _ _ _ h=>h) (hS:S w:=by first|assumption|exact ⟨_,by assumption⟩)
  (h:∀ wz,S wz→Fr a N L→(execOp a.eval ⟨some n,op,ty,ps,af,none⟩).run Tryz.prog wz=.ok (.value v) wz:=by
   intro wz HS F
   first
   | (have H:=HS;first
    | exact ex_move rfl (F.e rfl)
    | exact ex_assign rfl (F.e rfl)
    | exact ex_move rfl gx_evc
    | exact ex_assign rfl gx_evc
    | exact ex_faddr rfl (F.e rfl) (FA.h _ _ _)
    | exact ex_load rfl (F.e rfl) (gl_one (NA.h _) (H.c 0 rfl rfl))
    | exact ex_load rfl (F.e rfl) (gl_one (NA.h _) (H.c 1 rfl rfl))
    | exact ex_load rfl (F.e rfl) (gl_one (NA.h _) (H.c 2 rfl rfl))
    | exact ex_load rfl (F.e rfl) (gl_one (NA.h _) (H.c 3 rfl rfl))
    | exact ex_load rfl (F.e rfl) (gl_one (NA.h _) (H.c 4 rfl rfl))
    | exact ex_not rfl (F.e rfl)
    | exact ex_extract rfl (F.e rfl) rfl)
   | (obtain ⟨c9,H⟩:=HS;first
    | exact ex_move rfl (F.e rfl)
    | exact ex_assign rfl (F.e rfl)
    | exact ex_move rfl gx_evc
    | exact ex_assign rfl gx_evc
    | exact ex_faddr rfl (F.e rfl) (FA.h _ _ _)
    | exact ex_load rfl (F.e rfl) (gl_one (NA.h _) (H.c 0 rfl rfl))
    | exact ex_load rfl (F.e rfl) (gl_one (NA.h _) (H.c 1 rfl rfl))
    | exact ex_load rfl (F.e rfl) (gl_one (NA.h _) (H.c 2 rfl rfl))
    | exact ex_load rfl (F.e rfl) (gl_one (NA.h _) (H.c 3 rfl rfl))
    | exact ex_load rfl (F.e rfl) (gl_one (NA.h _) (H.c 4 rfl rfl))
    | exact ex_not rfl (F.e rfl)
    | exact ex_extract rfl (F.e rfl) rfl)):wpAnyH Tryz.prog md ops Q S (fuel+1) listed a w:=hzh_do F hn hi hr hQ hS (fun wz hs=>h wz hs F) k
theorem zr {fn:Func} {t:Nat} {R:Ending→World→Prop} (hR:R (.returned v) w) (F:Fr a N L:=by assumption) (h:fn.results=#[.tmp t]:=by rfl) (hl:lk L t=some v:=by rfl):bodyPost Tryz.prog fn R Exit.ret a w :=
 bodyPost_ret (gx_res h (F.g t v hl)) F.d hR
theorem zc {c:Operand} {x y:Code} {X:Bool} (ht:X=true→x.wp Tryz.prog Q a w) (hf:X=false→y.wp Tryz.prog Q a w) (F:Fr a N L:=by assumption) (hc:Fr a N L→a.eval c=.bool X:=by intro F;exact F.e rfl):(Code.cond c x y).wp Tryz.prog Q a w:=hz_cond (hc F) ht hf
theorem rb {b c:Bool} (h:b=c) (H:Hp w0 w M:=by assumption):Ending.returned (.bool b)=.returned (.bool c)∧Kept No w0 w:=⟨by rw[h],H.k⟩
theorem ri {b c:Int} {k:IntKind} (h:b=c) (H:Hp w0 w M:=by assumption):Ending.returned (.int k b)=.returned (.int k c)∧Kept No w0 w:=⟨by rw[h],H.k⟩
theorem dkf {k x y:Int} (h:decide (k=x)=true) (hxy:decide (x=y)=false):decide (k=y)=false:=by rw[of_decide_eq_true h];exact hxy
theorem dkt {k x:Int} (h:decide (k=x)=true):decide (k=x)=true:=h
theorem fin {p:Prop} (h:p:=by first|rfl|(simp;done)|(push_cast;omega)|(split<;>first|omega|(simp_all;done)|(simp_all;omega))|(push_cast;split<;>omega)):p:=h
theorem zg {gd:Nat × Bool} {G:Bool} (k:∀ a':Act,Fr a' N ((n,og G v) :: L)→wpList Tryz.prog ops Q rest a' w) (F:Fr a N L:=by assumption) (H:Hp w0 w M:=by assumption) (hn:Nat.blt n N=true:=by rfl)
  (hw:Fr a N L→Region.wanted ⟨some n,op,ty,ps,af,some gd⟩ (yielded ops a.tmps)=G:=by
   intro F
   first
   | exact hw_t F rfl rfl rfl
   | exact hw_f F rfl rfl rfl
   | exact hw_ot F rfl rfl rfl
   | exact hw_of F rfl rfl rfl)
  (h:Fr a N L→Hp w0 w M→G=true→(execOp a.eval ⟨some n,op,ty,ps,af,some gd⟩).run Tryz.prog w=.ok (.value v) w:=by
   intro F H hG
   first
   | exact ex_move rfl (F.o rfl hG)
   | exact ex_move rfl (F.e rfl)
   | exact ex_move rfl gx_evc
   | exact ex_faddr rfl (F.e rfl) (FA.h _ _ _)
   | exact ex_load rfl (F.o rfl hG) (gl_one (NA.h _) (H.c 0 rfl rfl))
   | exact ex_load rfl (F.o rfl hG) (gl_one (NA.h _) (H.c 1 rfl rfl))
   | exact ex_load rfl (F.o rfl hG) (gl_one (NA.h _) (H.c 2 rfl rfl))
   | exact ex_load rfl (F.o rfl hG) (gl_one (NA.h _) (H.c 3 rfl rfl))
   | exact ex_not rfl (F.o rfl hG)
   | exact ex_pickA rfl (F.o rfl hG) (fun hx=>F.o rfl (gai hG hx)) rfl
   | exact ex_pickO rfl (F.o rfl hG) (fun hx=>F.o rfl (gai hG (gnt hx))) rfl):wpList Tryz.prog ops Q (⟨some n,op,ty,ps,af,some gd⟩ :: rest) a w:=hz_g F hn (hw F) (h F H) k
theorem zgb {gd:Nat × Bool} {G:Bool} {bo:BinOp} {t u:TypeId} {x y:Operand} {p q:Value} (hb:(do eqGuard bo t x y p q;binOp bo t p q:Sem Value).run Tryz.prog w=.ok v w) (k:∀ a':Act,Fr a' N ((n,og G v) :: L)→wpList Tryz.prog ops Q rest a' w) (F:Fr a N L:=by assumption) (hn:Nat.blt n N=true:=by rfl)
  (hw:Fr a N L→Region.wanted ⟨some n,.binOp bo t x y u,ty,ps,af,some gd⟩ (yielded ops a.tmps)=G:=by
   intro F
   first
   | exact hw_t F rfl rfl rfl
   | exact hw_f F rfl rfl rfl
   | exact hw_ot F rfl rfl rfl
   | exact hw_of F rfl rfl rfl)
  (h:Fr a N L→(do eqGuard bo t x y p q;binOp bo t p q:Sem Value).run Tryz.prog w=.ok v w→G=true→(execOp a.eval ⟨some n,.binOp bo t x y u,ty,ps,af,some gd⟩).run Tryz.prog w=.ok (.value v) w:=by
   intro F hb hG
   first
   | exact ex_bin rfl (F.o rfl hG) gx_evc hb
   | exact ex_bin rfl (F.o rfl hG) (F.o rfl hG) hb
   | exact ex_bin rfl (F.e rfl) gx_evc hb
   | exact ex_bin rfl (F.e rfl) (F.e rfl) hb
   | exact ex_bin rfl (F.o rfl hG) (F.e rfl) hb
   | exact ex_bin rfl (F.e rfl) (F.o rfl hG) hb):wpList Tryz.prog ops Q (⟨some n,.binOp bo t x y u,ty,ps,af,some gd⟩ :: rest) a w:=hz_g F hn (hw F) (h F hb) k
theorem zs {b i:Nat} {t T:TypeId} {c:Array Value} {x y:Operand} {M2:List Bk} [SZ1 T] (M1:List Bk) (c':Array Value) (k:∀ w',Hp w0 w' (M1++⟨b,t,c'⟩ :: M2)→Kept (One b) w w'→wpList Tryz.prog ops Q rest a w')
  (F:Fr a N L:=by assumption) (hx:Fr a N L→a.eval x=.pointer (some ⟨b,i,none⟩):=by intro F;exact F.e rfl) (hy:Fr a N L→a.eval y=v:=by intro F;first|exact F.e rfl|exact gx_evc)
  (H:Hp w0 w (M1++⟨b,t,c⟩ :: M2):=by assumption) (h1:v.oneCell'=true:=by rfl) (hi:i < c.size:=by first|decide|simp[Pk.cells,zeroPk]) (e:c.setIfInBounds i v=c':=by rfl) :
  wpList Tryz.prog ops Q (⟨none,.store T x y,ty,ps,af,none⟩ :: rest) a w:=by
 obtain ⟨W9,hr,hB,hk⟩:=gx_set (P:=Tryz.prog) (T:=T) (i:=i) (v:=v) (c':=c') w H.blk (SZ1.h w) h1 hi e;exact hz_st (ex_store rfl (hx F) (hy F) hr) (k W9 (H.turn M1 hk hB) hk)
theorem tst {b i:Nat} {t T:TypeId} {c:Array Value} {x y:Operand} {M2:List Bk} [SZ1 T] (i0:Nat) (M1:List Bk) (c':Array Value) (k:∀ w',Hp w0 w' (M1++⟨b,t,c'⟩ :: M2)→Kept (One b) w w'→wpAnyH Tryz.prog md ops Q S fuel (listed.setIfInBounds i0 true) a w')
  (F:Fr a N L:=by assumption) (hj:ops[i0]?=some ⟨none,.store T x y,ty,ps,af,none⟩:=by rfl) (hr:Region.ready md ops listed=[i0]:=by kernel_rfl) (hx:Fr a N L→a.eval x=.pointer (some ⟨b,i,none⟩):=by intro F;exact F.e rfl) (hy:Fr a N L→a.eval y=v:=by intro F;first|exact F.e rfl|exact gx_evc)
  (H:Hp w0 w (M1++⟨b,t,c⟩ :: M2):=by assumption) (h1:v.oneCell'=true:=by rfl) (hi:i < c.size:=by first|decide|simp[Pk.cells,zeroPk]) (e:c.setIfInBounds i v=c':=by rfl)
  (hS:∀ w',Hp w0 w' (M1++⟨b,t,c'⟩ :: M2)→S w':=by intro w' H;first|exact ⟨_,H⟩|exact H|exact H.tl|exact ⟨_,H.tl⟩|exact H.tl.tl|exact ⟨_,H.tl.tl⟩):wpAnyH Tryz.prog md ops Q S (fuel+1) listed a w:=by
 obtain ⟨W9,hw,hB,hk⟩:=gx_set (P:=Tryz.prog) (T:=T) (i:=i) (v:=v) (c':=c') w H.blk (SZ1.h w) h1 hi e;have H9:=H.turn M1 hk hB;exact hb_one hr (hb_st hj (ex_store rfl (hx F) (hy F) hw) (hS W9 H9) (k W9 H9 hk))
end
theorem fn_149 (args:Array Value) (w:World):(callFunc 149 args).run Tryz.prog w=.ok (.enter 149 args) w:=gx_fn Tryz.func149 (by kernel_rfl) rfl args w
theorem fn_150 (args:Array Value) (w:World):(callFunc 150 args).run Tryz.prog w=.ok (.enter 150 args) w:=gx_fn Tryz.func150 (by kernel_rfl) rfl args w
theorem fn_151 (args:Array Value) (w:World):(callFunc 151 args).run Tryz.prog w=.ok (.enter 151 args) w:=gx_fn Tryz.func151 (by kernel_rfl) rfl args w
set_option maxHeartbeats 4000000 in
theorem sameWill2_any (p q:Pk) (s t:Sl) (w:World) (hp:p.At s w) (hq:q.At t w) (hpf:p.few) (hqf:q.few) :
  Calls Tryz.prog 149 #[p.val s,q.val t] w fun e w'=>e=.returned (.bool (willB p q))∧Kept No w w':=by
 have hm1:=hpf.hf;have hm2:=hqf.hf;let RR:Ending→World→Prop:=fun e w'=>e=.returned (.bool (willB p q))∧Kept No w w'
 go_enter Tryz.func149,Tryz.ntmps149
 generalize hA:({ tmps:=_,defers:=[] }:Act)=A;have F:Fr A 45 [(1,(Pk.val q t)),(0,(Pk.val p s))]:=by rw[← hA];exact (Fr.cons (i:=1) (v:=(Pk.val q t)) (Fr.cons (i:=0) (v:=(Pk.val p s)) (Fr.nil0 rfl rfl) rfl) rfl)
 clear hA;have H:=Hp.start w;refine wp_seq_k (fun K1 hK1=>gx_region ?_);refine hz_new (c:=(Pk.cells p s)) (t:=33) F H rfl (ex_box rfl (F.e rfl) (gx_box _ _)) ?_;clear F A;intro b2 W A hk hN H9 F;clear H;have H:=H9;clear H9;clear hk hN;refine hz_new (c:=(Pk.cells q t)) (t:=33) F H rfl (ex_box rfl (F.e rfl) (gx_box _ _)) ?_;clear F A;intro b3 W A hk hN H9 F;clear H;have H:=H9;clear H9;clear hk hN;refine zd ?_;intro A F;refine wpList_nil (hK1 _ _ ?_);refine wp_seq_k (fun K4 hK4=>gx_region ?_)
 iterate 4 (refine zd ?_;intro A F)
 refine zb (rn_beql Tryz.underlying4) ?_;intro A F;refine zd ?_;intro A F
 iterate 4 (refine zg ?_;intro A F)
 refine zgb (rn_eqlN (i:=p.willQoS) (j:=q.willQoS)) ?_;intro A F;refine hz_do F rfl (ex_pickA rfl (F.e rfl) (fun hx=>(F.o rfl hx)) rfl) ?_;intro A F;refine zd ?_;intro A F
 iterate 4 (refine zg ?_;intro A F)
 refine zgb (rn_beql Tryz.underlying4) ?_;intro A F;refine hz_do F rfl (ex_pickA rfl (F.e rfl) (fun hx=>(F.o rfl hx)) rfl) ?_;intro A F;refine zd ?_;intro A F
 iterate 4 (refine zg ?_;intro A F)
 refine zgb (rn_seql) ?_;intro A F;refine hz_do F rfl (ex_pickA rfl (F.e rfl) (fun hx=>(F.o rfl hx)) rfl) ?_;intro A F;refine zd ?_;intro A F
 iterate 4 (refine zg ?_;intro A F)
 refine zgb (rn_seql) ?_;intro A F;refine hz_do F rfl (ex_pickA rfl (F.e rfl) (fun hx=>(F.o rfl hx)) rfl) ?_;intro A F;refine zd ?_;intro A F
 iterate 4 (refine zg ?_;intro A F)
 refine hz_callg F H rfl (hw_t F rfl rfl rfl) (fun hG=>(ex_call rfl rfl (gx_l1 (F.o rfl hG) (gx_l1 (F.o rfl hG) gx_l0)) fn_152)) (fun hG=>psame_any s.wa s.wc p.willProps t.wa t.wc q.willProps _ (hp.kept H.k).hw (hq.kept H.k).hw hpf.hw hqf.hw) ?_;clear F H A;intro W A hk H F;clear hk;refine hz_do F rfl (ex_pickA rfl (F.e rfl) (fun hx=>(F.o rfl hx)) rfl) ?_;intro A F;refine zd ?_;intro A F;refine wpList_nil (hK4 _ _ ?_);refine gx_ret ?_;refine (show bodyPost _ Tryz.f149 RR Exit.ret _ _ from zr ?_);exact rb (by unfold willB;first|rfl|simp[Bool.and_assoc])
set_option maxHeartbeats 4000000 in
theorem pksame2_any (p q:Pk) (s t:Sl) (w:World) (hp:p.At s w) (hq:q.At t w) (hpf:p.few) (hqf:q.few) :
  Calls Tryz.prog 114 #[p.val s,q.val t] w fun e w'=>e=.returned (.bool (sameB p q))∧Kept No w w':=by
 have hm1:=hpf.hf;have hm2:=hqf.hf;let RR:Ending→World→Prop:=fun e w'=>e=.returned (.bool (sameB p q))∧Kept No w w'
 go_enter Tryz.func114,Tryz.ntmps114
 generalize hA:({ tmps:=_,defers:=[] }:Act)=A;have F:Fr A 141 [(1,(Pk.val q t)),(0,(Pk.val p s))]:=by rw[← hA];exact (Fr.cons (i:=1) (v:=(Pk.val q t)) (Fr.cons (i:=0) (v:=(Pk.val p s)) (Fr.nil0 rfl rfl) rfl) rfl)
 clear hA;have H:=Hp.start w;refine wp_seq_k (fun K1 hK1=>gx_region ?_);refine hz_new (c:=(Pk.cells p s)) (t:=33) F H rfl (ex_box rfl (F.e rfl) (gx_box _ _)) ?_;clear F A;intro b2 W A hk hN H9 F;clear H;have H:=H9;clear H9;clear hk hN;refine hz_new (c:=(Pk.cells q t)) (t:=33) F H rfl (ex_box rfl (F.e rfl) (gx_box _ _)) ?_;clear F A;intro b3 W A hk hN H9 F;clear H;have H:=H9;clear H9;clear hk hN;refine zd ?_;intro A F;refine wpList_nil (hK1 _ _ ?_);refine wp_seq_k (fun K4 hK4=>gx_region ?_)
 iterate 4 (refine zd ?_;intro A F)
 refine zb (rn_eql) ?_;intro A F;refine zd ?_;intro A F
 iterate 4 (refine zg ?_;intro A F)
 refine zgb (rn_eqlN (i:=p.id) (j:=q.id)) ?_;intro A F;refine hz_do F rfl (ex_pickA rfl (F.e rfl) (fun hx=>(F.o rfl hx)) rfl) ?_;intro A F;refine zd ?_;intro A F
 iterate 4 (refine zg ?_;intro A F)
 refine zgb (rn_beql Tryz.underlying4) ?_;intro A F;refine hz_do F rfl (ex_pickA rfl (F.e rfl) (fun hx=>(F.o rfl hx)) rfl) ?_;intro A F;refine zd ?_;intro A F
 iterate 4 (refine zg ?_;intro A F)
 refine zgb (rn_eqlN (i:=p.code) (j:=q.code)) ?_;intro A F;refine hz_do F rfl (ex_pickA rfl (F.e rfl) (fun hx=>(F.o rfl hx)) rfl) ?_;intro A F;refine zd ?_;intro A F
 iterate 4 (refine zg ?_;intro A F)
 refine zgb (rn_beql Tryz.underlying4) ?_;intro A F;refine hz_do F rfl (ex_pickA rfl (F.e rfl) (fun hx=>(F.o rfl hx)) rfl) ?_;intro A F;refine zd ?_;intro A F
 iterate 4 (refine zg ?_;intro A F)
 refine zgb (rn_eqlN (i:=p.qos) (j:=q.qos)) ?_;intro A F;refine hz_do F rfl (ex_pickA rfl (F.e rfl) (fun hx=>(F.o rfl hx)) rfl) ?_;intro A F;refine zd ?_;intro A F
 iterate 4 (refine zg ?_;intro A F)
 refine zgb (rn_beql Tryz.underlying4) ?_;intro A F;refine hz_do F rfl (ex_pickA rfl (F.e rfl) (fun hx=>(F.o rfl hx)) rfl) ?_;intro A F;refine zd ?_;intro A F
 iterate 4 (refine zg ?_;intro A F)
 refine zgb (rn_seql) ?_;intro A F;refine hz_do F rfl (ex_pickA rfl (F.e rfl) (fun hx=>(F.o rfl hx)) rfl) ?_;intro A F;refine zd ?_;intro A F
 iterate 4 (refine zg ?_;intro A F)
 refine zgb (rn_seql) ?_;intro A F;refine hz_do F rfl (ex_pickA rfl (F.e rfl) (fun hx=>(F.o rfl hx)) rfl) ?_;intro A F;refine zd ?_;intro A F
 iterate 4 (refine zg ?_;intro A F)
 refine zgb (rn_beql Tryz.underlying4) ?_;intro A F;refine hz_do F rfl (ex_pickA rfl (F.e rfl) (fun hx=>(F.o rfl hx)) rfl) ?_;intro A F;refine zd ?_;intro A F
 iterate 4 (refine zg ?_;intro A F)
 refine zgb (rn_eqlN (i:=p.keep) (j:=q.keep)) ?_;intro A F;refine hz_do F rfl (ex_pickA rfl (F.e rfl) (fun hx=>(F.o rfl hx)) rfl) ?_;intro A F;refine zd ?_;intro A F
 iterate 4 (refine zg ?_;intro A F)
 refine zgb (rn_seql) ?_;intro A F;refine hz_do F rfl (ex_pickA rfl (F.e rfl) (fun hx=>(F.o rfl hx)) rfl) ?_;intro A F;refine zd ?_;intro A F;refine hz_g F rfl (hw_t F rfl rfl rfl) (fun hG=>(ex_load rfl (F.e rfl) (gl_agg ((Pk.cells p s)) rfl (ga_33 _) (gs_33 _) (fun i=>H.cs 1 rfl i)))) ?_;intro A F;refine hz_g F rfl (hw_t F rfl rfl rfl) (fun hG=>(ex_load rfl (F.e rfl) (gl_agg ((Pk.cells q t)) rfl (ga_33 _) (gs_33 _) (fun i=>H.cs 0 rfl i)))) ?_;intro A F;refine hz_callg F H rfl (hw_t F rfl rfl rfl) (fun hG=>(ex_call rfl rfl (gx_l1 (F.o rfl hG) (gx_l1 (F.o rfl hG) gx_l0)) fn_149)) (fun hG=>sameWill2_any p q s t _ (hp.kept H.k) (hq.kept H.k) hpf hqf) ?_;clear F H A;intro W A hk H F;clear hk;refine hz_do F rfl (ex_pickA rfl (F.e rfl) (fun hx=>(F.o rfl hx)) rfl) ?_;intro A F;refine zd ?_;intro A F
 iterate 4 (refine zg ?_;intro A F)
 refine zgb (rn_beql Tryz.underlying4) ?_;intro A F;refine hz_do F rfl (ex_pickA rfl (F.e rfl) (fun hx=>(F.o rfl hx)) rfl) ?_;intro A F;refine zd ?_;intro A F
 iterate 4 (refine zg ?_;intro A F)
 refine zgb (rn_seql) ?_;intro A F;refine hz_do F rfl (ex_pickA rfl (F.e rfl) (fun hx=>(F.o rfl hx)) rfl) ?_;intro A F;refine zd ?_;intro A F
 iterate 4 (refine zg ?_;intro A F)
 refine zgb (rn_beql Tryz.underlying4) ?_;intro A F;refine hz_do F rfl (ex_pickA rfl (F.e rfl) (fun hx=>(F.o rfl hx)) rfl) ?_;intro A F;refine zd ?_;intro A F
 iterate 4 (refine zg ?_;intro A F)
 refine zgb (rn_seql) ?_;intro A F;refine hz_do F rfl (ex_pickA rfl (F.e rfl) (fun hx=>(F.o rfl hx)) rfl) ?_;intro A F;refine zd ?_;intro A F
 iterate 4 (refine zg ?_;intro A F)
 refine hz_callg F H rfl (hw_t F rfl rfl rfl) (fun hG=>(ex_call rfl rfl (gx_l1 (F.o rfl hG) (gx_l1 (F.o rfl hG) gx_l0)) fn_150)) (fun hG=>fequal_any s.fa s.fc p.filters t.fa t.fc q.filters _ (hp.kept H.k).hf (hq.kept H.k).hf hpf.hf hqf.hf) ?_;clear F H A;intro W A hk H F;clear hk;refine hz_do F rfl (ex_pickA rfl (F.e rfl) (fun hx=>(F.o rfl hx)) rfl) ?_;intro A F;refine zd ?_;intro A F
 iterate 4 (refine zg ?_;intro A F)
 refine hz_callg F H rfl (hw_t F rfl rfl rfl) (fun hG=>(ex_call rfl rfl (gx_l1 (F.o rfl hG) (gx_l1 (F.o rfl hG) gx_l0)) fn_151)) (fun hG=>cequal_any s.ca s.cc p.codes t.ca t.cc q.codes _ (hp.kept H.k).hc (hq.kept H.k).hc hpf.hc hqf.hc) ?_;clear F H A;intro W A hk H F;clear hk;refine hz_do F rfl (ex_pickA rfl (F.e rfl) (fun hx=>(F.o rfl hx)) rfl) ?_;intro A F;refine zd ?_;intro A F
 iterate 4 (refine zg ?_;intro A F)
 refine hz_callg F H rfl (hw_t F rfl rfl rfl) (fun hG=>(ex_call rfl rfl (gx_l1 (F.o rfl hG) (gx_l1 (F.o rfl hG) gx_l0)) fn_152)) (fun hG=>psame_any s.pa s.pc p.props t.pa t.pc q.props _ (hp.kept H.k).hp (hq.kept H.k).hp hpf.hp hqf.hp) ?_;clear F H A;intro W A hk H F;clear hk;refine hz_do F rfl (ex_pickA rfl (F.e rfl) (fun hx=>(F.o rfl hx)) rfl) ?_;intro A F;refine zd ?_;intro A F;refine wpList_nil (hK4 _ _ ?_);refine gx_ret ?_;refine (show bodyPost _ Tryz.f114 RR Exit.ret _ _ from zr ?_);exact rb (by unfold sameB;first|rfl|simp[Bool.and_assoc])
end Go.Proofs.YtdeecgmihfakgaaGreatDoor
