import Derived.Test.YtofjhopecfmbcaaGreatDoorYH3
import Derived.Lib.AppendStr
import Derived.Laws.MakeOwn
import Derived.Laws.Small
import Derived.Lib.SlBytesConst
namespace Go.Proofs.YtofjhopecfmbcaaGreatDoor
open Go.RowKit
set_option linter.unusedVariables false
set_option linter.unusedSimpArgs false
set_option maxRecDepth 100000
theorem Ck.le {P:Program} {f:Nat} {args:List Value} {c c':World} {v:Value} (h:Ck P f args c v) (k:Le c c'):Ck P f args c' v:=⟨h.e,fun w hw=>h.h w (k.trans hw)⟩
theorem Off.le {c c':World} (h:Le c c') {g:Nat} (k:Off c' g):Off c g:=by
 rcases k with k|k
 ·exact .inl (Nat.le_trans h.size k)
 ·by_cases hn:Hole c g
  ·exact .inr hn
  ·rcases Nat.lt_or_ge g c.heap.size with hg|hg
   ·have:=h.block g hg hn
    unfold Hole at k hn;rw[k]at this;exact absurd this.symm hn
   ·exact .inl hg
theorem St.back {κ:Cx} {c c':World} {M:List Bl} {R:List Rwv} {w:World} (S:St κ c' M R w) (h:Le c c') (h0:Le κ.c0 c):St κ c M R w :=
 ⟨S.k,S.k1,h0,fun g a b d=>(S.oc g a b d).le h,fun g hg=>⟨(S.own g hg).1,(S.own g hg).2.1,(S.own g hg).2.2.le h⟩,h.trans S.le,S.m,S.md,S.r,S.rd,S.mr⟩
theorem hole_cell {c:World} {b off:Nat} {v:Value} (h:c.cell? ⟨b,off,none⟩=some v):b < c.heap.size∧¬ Hole c b:=by
 constructor
 ·rcases Nat.lt_or_ge b c.heap.size with q|q
  ·exact q
  ·simp[World.cell?,Array.getElem?_eq_none q]at h
 ·intro hh
  unfold Hole at hh;simp[World.cell?,hh]at h
theorem Le.blk {c w:World} {b off:Nat} {v:Value} (h:Le c w) (hc:c.cell? ⟨b,off,none⟩=some v):w.heap[b]?=c.heap[b]?:=h.block b (hole_cell hc).1 (hole_cell hc).2
structure Own9 (c:World) (e:Nat) (a:Option Addr) (n cp:Nat) (xs:List Value):Prop where
 row:Row c a xs
 nil:a=none→cp=0
 le:n≤cp
 mx:cp≤maxLen
 typ:xs≠[]→∀ b off,a=some ⟨b,off,none⟩→∃ cs,c.heap[b]?=some (.cells cs e (0,0))
theorem own_c {w' c':World} {B e k n:Nat} {a:Option Addr} {cp:Nat} {xs:List Value} (h:w'.ownsRow B e k (.slice a n cp) n xs) (hc:∀ b,B≤b→c'.heap[b]?=w'.heap[b]?) (hz:c'.heap.size=w'.heap.size):Own9 c' e a n cp xs:=by
 rcases h.2 with ⟨h1,h2⟩|⟨g,cap,cur,h1,h2,h3,h4,h5,h6,h7⟩
 ·simp at h1
  obtain ⟨rfl,rfl,rfl⟩:=h1;have hl:=h.1;simp at hl;exact ⟨.inl hl,fun _=>rfl,Nat.le_refl _,by simp[maxLen],fun _ b off hh=>by cases hh⟩
 ·simp at h1
  obtain ⟨rfl,rfl⟩:=h1;have hlt:=(Array.getElem?_eq_some_iff.1 h3).1;refine ⟨.inr ⟨g,0,rfl,by rw[hz];exact hlt,fun j u hj=>?_⟩,(by intro h;cases h),h4,h5,fun _ b off hh=>?_⟩
  ·have hc9:=h.cells (g:=g) rfl j u hj
   rw[Addr.add_lit]at hc9;rw[← hc9];exact World.cell?_of_block (hc g h2)
  ·injection hh with hh
   injection hh with e1 e2;subst e1;exact ⟨cur,(hc g h2).trans h3⟩
theorem Own9.le9 {c c':World} {e n cp:Nat} {a:Option Addr} {xs:List Value} (h:Own9 c e a n cp xs) (k:Le c c'):Own9 c' e a n cp xs:=by
 refine ⟨h.row.le k,h.nil,h.le,h.mx,fun hx b off hh=>?_⟩;obtain ⟨cs,hz⟩:=h.typ hx b off hh;refine ⟨cs,?_⟩;rcases h.row with h9|⟨b',off',h1,h2,h3⟩
 ·exact absurd h9 hx
 ·rw[hh]at h1
  injection h1 with h1;injection h1 with e1 e2;subst e1;cases xs with
  | nil=>exact absurd rfl hx
  | cons u l=>rw[k.blk (h3 0 u rfl),hz]
abbrev Tn {α:Type} (P:Program) (f:Nat) (args:List Value) (c:World) (vf:α→Value) (φ:α→World→Prop):Prop :=
 Tr P f args c [] [] (fun x:α × World=>vf x.1) (fun x=>x.2) (fun _=>[]) (fun _=>[]) (fun x=>Le c x.2∧φ x.1 x.2)
theorem Tn.of {α:Type} {P:Program} {f:Nat} {fn:Func} {args:List Value} {c:World} {vf:α→Value} {φ:α→World→Prop} {ψ:α→World→World→Prop} (hf:P.funcs[f]?=some fn) (h:∀ w,Le c w→Calls P f args.toArray w fun e w'=>∃ x,e=.returned (vf x)∧ψ x w w'∧Kept No w w')
  (hφ : ∀ x w w' c', ψ x w w' → (∀ b, w.heap.size ≤ b → c'.heap[b]? = w'.heap[b]?) → c'.heap.size = w'.heap.size → φ x c') (hb : fn.body.isNone = false := by rfl) (hg : (fn.name == "runtime.NumGoroutine") = false := by kernel_rfl) : Tn P f args c vf φ :=
 ⟨fun args w=>gx_fn hf hg hb args w,fun κ w S=>(h w S.le).mono fun e w' ⟨x,h1,h2,h3⟩=>by
  obtain ⟨l1,l2⟩:=((S.sub).no h3).learn (G:=fun g=>w.heap.size≤g) (fun g hg ho=>own_nil_ ho) (fun g hg=>.inr hg) (fun g hg=>.inl (Nat.le_trans S.le.size hg));exact ⟨(x,learn c w' _),h1,⟨l1,hφ x w w' _ h2 (fun b hb=>learn_yes (.inr hb)) learn_size⟩,l2⟩⟩
theorem Tn.own {P : Program} {f : Nat} {fn : Func} {args : List Value} {c : World} {e k n : Nat} {xs : List Value} (hf : P.funcs[f]? = some fn) (h : ∀ w, Le c w → Calls P f args.toArray w fun ed w' => ∃ a cp, ed = .returned (.slice a n cp) ∧ w'.ownsRow w.heap.size e k (.slice a n cp) n xs ∧ Kept No w w') (hb : fn.body.isNone = false := by rfl) (hg : (fn.name == "runtime.NumGoroutine") = false := by kernel_rfl) :
  Tn P f args c (fun x:Option Addr × Nat=>.slice x.1 n x.2) (fun x c'=>Own9 c' e x.1 n x.2 xs) :=
 Tn.of (ψ:=fun x w w'=>w'.ownsRow w.heap.size e k (.slice x.1 n x.2) n xs) hf (fun w hw=>(h w hw).mono fun ed w' ⟨a,cp,h1,h2,h3⟩=>⟨(a,cp),h1,h2,h3⟩) (fun x w w' c' h1 h2 h3=>own_c h1 h2 h3) hb hg
section
variable {P:Program} {t1 z1:Nat} {o1:List Nat} {k1:TK} {b1:Bool} {ops:Array Oper} {Q:Kn} {rest:List Oper} {N n i fuel:Nat} {listed listed':List Bool} {L:List (Nat × Value)} {cH c:World} {H M:List Bl} {R:List Rwv} {v:Value} {ty:TypeId} {ps:String} {af:Array Edge} {op:Op} {gd:Option (Nat × Bool)} {x y:Operand}
theorem vtn {α:Type} {vf:α→Value} {ψ:α→World→Prop} {f:Nat} {l:List Operand} {vs:List Value} {ats:Array TypeId} (hc:Tn P f vs c vf ψ) (k:∀ x c',Le c c'→ψ x c'→LG P ops Q rest N ((n,vf x) :: L) c' M R) (hx:lkos L l=some vs:=by rfl) (hw:wtd ops L gd=some true:=by rfl) (hn:Nat.blt n N=true:=by rfl) :
  LG P ops Q (⟨some n,.call { callee:=.value (.func f),args:=l.toArray,argTypes:=ats },ty,ps,af,gd⟩ :: rest) N L c M R :=
 vta (M1:=[]) (R1:=[]) hc (fun x h=>k x.1 x.2 h.1 h.2) hx hw hn
theorem vt0m {α:Type} {vf:α→Value} {cf:α→World} {m':α→Bl} {φ:α→Prop} {f:Nat} {l:List Operand} {vs:List Value} {ats:Array TypeId} (hc:Tr P f vs c [] [] vf cf (fun x=>[m' x]) (fun _=>[]) φ) (k:∀ x,φ x→LG P ops Q rest N ((n,vf x) :: L) (cf x) (m' x :: M) R) (hx:lkos L l=some vs:=by rfl) (hw:wtd ops L gd=some true:=by rfl) (hn:Nat.blt n N=true:=by rfl) :
  LG P ops Q (⟨some n,.call { callee:=.value (.func f),args:=l.toArray,argTypes:=ats },ty,ps,af,gd⟩ :: rest) N L c M R :=
 vta (M1:=[]) (R1:=[]) hc k hx hw hn
theorem vt1a {α:Type} {vf:α→Value} {cf:α→World} {m:Bl} {m':α→Bl} {φ:α→Prop} {f:Nat} {l:List Operand} {vs:List Value} {ats:Array TypeId} (hc:Tr P f vs c [m] [] vf cf (fun x=>[m' x]) (fun _=>[]) φ) (k:∀ x,φ x→LG P ops Q rest N ((n,vf x) :: L) (cf x) (m' x :: M) R) (hx:lkos L l=some vs:=by rfl) (hw:wtd ops L gd=some true:=by rfl) (hn:Nat.blt n N=true:=by rfl) :
  LG P ops Q (⟨some n,.call { callee:=.value (.func f),args:=l.toArray,argTypes:=ats },ty,ps,af,gd⟩ :: rest) N L c (m :: M) R :=
 vta (M1:=[m]) (R1:=[]) hc k hx hw hn
theorem LG.drop {m0:Bl} {M':List Bl} (k:LG P ops Q rest N L c M' R) (h:M.Perm (m0 :: M')):LG P ops Q rest N L c M R:=⟨fun κ a w F S=>k.h κ a w F (S.perm h).drop⟩
theorem EG.perm {M':List Bl} {ex:Exit} (k:EG P Q ex N L c M' R) (h:M.Perm M'):EG P Q ex N L c M R:=⟨fun κ a w F S=>k.h κ a w F (S.perm h)⟩
theorem LG.perm {M':List Bl} (k:LG P ops Q rest N L c M' R) (h:M.Perm M'):LG P ops Q rest N L c M R:=⟨fun κ a w F S=>k.h κ a w F (S.perm h)⟩
theorem vt1b {α:Type} {vf:α→Value} {cf:α→World} {m0 m:Bl} {m':α→Bl} {φ:α→Prop} {f:Nat} {l:List Operand} {vs:List Value} {ats:Array TypeId} (hc:Tr P f vs c [m] [] vf cf (fun x=>[m' x]) (fun _=>[]) φ) (k:∀ x,φ x→LG P ops Q rest N ((n,vf x) :: L) (cf x) (m0 :: m' x :: M) R) (hx:lkos L l=some vs:=by rfl) (hw:wtd ops L gd=some true:=by rfl) (hn:Nat.blt n N=true:=by rfl) :
  LG P ops Q (⟨some n,.call { callee:=.value (.func f),args:=l.toArray,argTypes:=ats },ty,ps,af,gd⟩ :: rest) N L c (m0 :: m :: M) R :=
 (vta (M1:=[m]) (R1:=[]) hc (fun x h=>(k x h).perm (.swap _ _ _)) hx hw hn).perm (.swap _ _ _)
theorem vt1c {α:Type} {vf:α→Value} {cf:α→World} {m0 m1 m:Bl} {m':α→Bl} {φ:α→Prop} {f:Nat} {l:List Operand} {vs:List Value} {ats:Array TypeId} (hc:Tr P f vs c [m] [] vf cf (fun x=>[m' x]) (fun _=>[]) φ) (k:∀ x,φ x→LG P ops Q rest N ((n,vf x) :: L) (cf x) (m0 :: m1 :: m' x :: M) R) (hx:lkos L l=some vs:=by rfl) (hw:wtd ops L gd=some true:=by rfl) (hn:Nat.blt n N=true:=by rfl) :
  LG P ops Q (⟨some n,.call { callee:=.value (.func f),args:=l.toArray,argTypes:=ats },ty,ps,af,gd⟩ :: rest) N L c (m0 :: m1 :: m :: M) R :=
 (vta (M1:=[m]) (R1:=[]) hc (fun x h=>(k x h).perm (((List.Perm.swap _ _ _).trans ((List.Perm.swap _ _ _).cons _)))) hx hw hn).perm ((((List.Perm.swap _ _ _).cons _).trans (.swap _ _ _)))
theorem vt20 {α:Type} {vf:α→Value} {cf:α→World} {m1 m2:Bl} {m1' m2':α→Bl} {φ:α→Prop} {f:Nat} {l:List Operand} {vs:List Value} {ats:Array TypeId} (hc:Tr P f vs c [m1,m2] [] vf cf (fun x=>[m1' x,m2' x]) (fun _=>[]) φ) (k:∀ x,φ x→LG P ops Q rest N ((n,vf x) :: L) (cf x) (m1' x :: m2' x :: M) R) (hx:lkos L l=some vs:=by rfl) (hw:wtd ops L gd=some true:=by rfl) (hn:Nat.blt n N=true:=by rfl) :
  LG P ops Q (⟨some n,.call { callee:=.value (.func f),args:=l.toArray,argTypes:=ats },ty,ps,af,gd⟩ :: rest) N L c (m1 :: m2 :: M) R :=
 vta (M1:=[m1,m2]) (R1:=[]) hc k hx hw hn
theorem vt30 {α:Type} {vf:α→Value} {cf:α→World} {m1 m2 m3:Bl} {m1' m2' m3':α→Bl} {φ:α→Prop} {f:Nat} {l:List Operand} {vs:List Value} {ats:Array TypeId} (hc:Tr P f vs c [m1,m2,m3] [] vf cf (fun x=>[m1' x,m2' x,m3' x]) (fun _=>[]) φ) (k:∀ x,φ x→LG P ops Q rest N ((n,vf x) :: L) (cf x) (m1' x :: m2' x :: m3' x :: M) R) (hx:lkos L l=some vs:=by rfl) (hw:wtd ops L gd=some true:=by rfl) (hn:Nat.blt n N=true:=by rfl) :
  LG P ops Q (⟨some n,.call { callee:=.value (.func f),args:=l.toArray,argTypes:=ats },ty,ps,af,gd⟩ :: rest) N L c (m1 :: m2 :: m3 :: M) R :=
 vta (M1:=[m1,m2,m3]) (R1:=[]) hc k hx hw hn
theorem vt11 {α:Type} {vf:α→Value} {cf:α→World} {m:Bl} {r:Rwv} {m':α→Bl} {r':α→Rwv} {φ:α→Prop} {f:Nat} {l:List Operand} {vs:List Value} {ats:Array TypeId} (hc:Tr P f vs c [m] [r] vf cf (fun x=>[m' x]) (fun x=>[r' x]) φ) (k:∀ x,φ x→LG P ops Q rest N ((n,vf x) :: L) (cf x) (m' x :: M) (r' x :: R)) (hx:lkos L l=some vs:=by rfl) (hw:wtd ops L gd=some true:=by rfl) (hn:Nat.blt n N=true:=by rfl) :
  LG P ops Q (⟨some n,.call { callee:=.value (.func f),args:=l.toArray,argTypes:=ats },ty,ps,af,gd⟩ :: rest) N L c (m :: M) (r :: R) :=
 vta (M1:=[m]) (R1:=[r]) hc k hx hw hn
end
structure Tc {α:Type} (c0:World) (vf:α→Value) (cf:α→World) (Mf:α→List Bl) (Rf:α→List Rwv) (φ:α→Prop) (κ:Cx) (e:Ending) (w:World):Prop where
 h:κ.c0=c0→Tv vf cf Mf Rf φ κ e w
theorem St.part {κ:Cx} {c:World} {w:World} {M1 M2:List Bl} {R1 R2:List Rwv} (S:St κ c (M1++M2) (R1++R2) w):St κ c M1 R1 w :=
 ⟨S.k,S.k1,S.lc,S.oc,fun g hg=>S.own g (hg.imp (fun ⟨y,hy,e⟩=>⟨y,by simp[hy],e⟩) (fun ⟨y,hy,e⟩=>⟨y,by simp[hy],e⟩)),S.le,fun y hy=>S.m y (by simp[hy]),(List.pairwise_append.1 S.md).1,fun y hy=>S.r y (by simp[hy]),(List.pairwise_append.1 S.rd).1,fun y hy x hx=>S.mr y (by simp[hy]) x (by simp[hx])⟩
section
variable {P:Program} {N:Nat} {L:List (Nat × Value)} {c0 c:World} {M:List Bl} {R:List Rwv} {v:Value} {fn:Func}
end
theorem Tn.in {α : Type} {P : Program} {vf : α → Value} {φ : α → World → Prop} {f : Nat} {fn : Func} {args : List Value} {c : World} {x : Code} {N : Nat} (hf : P.funcs[f]? = some fn) (k : CG P (KR P fn (Tv (fun x : α × World => vf x.1) (fun x => x.2) (fun _ => []) (fun _ => []) (fun x => Le c x.2 ∧ φ x.1 x.2))) x N (vnum 0 args) c [] []) (hb : fn.body = some x := by rfl) (hN : fn.ntmps = N := by rfl) (hz : Nat.ble args.length N = true := by rfl) (hg : (fn.name == "runtime.NumGoroutine") = false := by kernel_rfl) : Tn P f args c vf φ :=
 Tr.in hf k hb hN hz hg
section
variable {P:Program} {N:Nat} {L:List (Nat × Value)} {c0 c:World} {M:List Bl} {R:List Rwv} {v:Value} {e:Exit} {Q:Kn} {fn:Func}
theorem St.bare {κ:Cx} {w:World} (S:St κ c M R w):St κ c [] [] w :=
 ⟨S.k,S.k1,S.lc,S.oc,fun g hg=>(own_nil_ hg).elim,S.le,by simp,.nil,by simp,.nil,by simp⟩
theorem vrn2 [Tbv P] {α:Type} {vf:α→Value} {cf:α→World} {Mf:α→List Bl} {Rf:α→List Rwv} {φ:α→Prop} {r1 r2:ResultVar} {x1 x2:Value} (x:α) (hφ:φ x) (hv:Value.tuple #[x1,x2]=vf x:=by rfl) (hc:c=cf x:=by rfl) (hM:Mf x=[]:=by rfl) (hR:Rf x=[]:=by rfl) (hr:fn.results=#[r1,r2]:=by rfl) (h:RvOk P L M [r1,r2] [x1,x2]:=by repeat' (first|exact rv0|refine rvt rfl ?_|refine rvc rfl (by repeat constructor) rfl rfl ?_|refine rvs rfl (by repeat constructor) rfl rfl ?_)):EG P (KR P fn (Tv vf cf Mf Rf φ)) .ret N L c M R :=
 vr2 (fun κ w S=>⟨x,by rw[hv],hφ,by rw[hM,hR,← hc];exact S.bare⟩) hr h
theorem vrtb [Tbv P] {α:Type} {vf:α→Value} {cf:α→World} {Mf:α→List Bl} {Rf:α→List Rwv} {φ:α→Prop} {r:ResultVar} {M2:List Bl} {R2:List Rwv} (x:α) (hφ:φ x) (hv:v=vf x:=by rfl) (hc:c=cf x:=by rfl) (hM:M=Mf x++M2:=by rfl) (hR:R=Rf x++R2:=by rfl) (hr:fn.results=#[r]:=by rfl) (h:RvOk P L M [r] [v]:=by first|exact rvt rfl rv0|exact rvc rfl (by repeat constructor) rfl rfl rv0|exact rvs rfl (by repeat constructor) rfl rfl rv0):EG P (KR P fn (Tv vf cf Mf Rf φ)) .ret N L c M R:=by
 subst hv hc hM hR;refine vr (fun κ w S=>⟨x,rfl,hφ,?_⟩) hr h;exact ⟨S.k,S.k1,S.lc,S.oc,fun g hg=>S.own g (hg.imp (fun ⟨y,hy,e⟩=>⟨y,by simp[hy],e⟩) (fun ⟨y,hy,e⟩=>⟨y,by simp[hy],e⟩)),S.le,fun y hy=>S.m y (by simp[hy]),(List.pairwise_append.1 S.md).1,fun y hy=>S.r y (by simp[hy]),(List.pairwise_append.1 S.rd).1,fun y hy x hx=>S.mr y (by simp[hy]) x (by simp[hx])⟩
end
theorem own_learn {c w:World} {B e k i cp:Nat} {a:Option Addr} {xs:List Value} (hr:w.ownsRow B e k (.slice a i cp) i xs):Own9 (learn c w (fun g=>(Value.slice a i cp).ownBlock=some g)) e a i cp xs:=by
 rcases hr.2 with ⟨h1,h2⟩|⟨g,cap,cur,h1,h2,h3,h4,h5,h6,h7⟩
 ·exact own_c (w':=w) (B:=w.heap.size) (k:=k) ⟨hr.1,.inl ⟨h1,h2⟩⟩ (fun b hb=>by rw[Array.getElem?_eq_none (by rw[learn_size];exact hb),Array.getElem?_eq_none hb]) learn_size
 ·simp at h1
  obtain ⟨rfl,rfl⟩:=h1;have hlt:=(Array.getElem?_eq_some_iff.1 h3).1;have hb:(learn c w (fun g'=>(Value.slice (some ⟨g,0,none⟩) i cp).ownBlock=some g')).heap[g]?=w.heap[g]?:=learn_yes (.inr rfl);refine ⟨.inr ⟨g,0,rfl,by rw[learn_size];exact hlt,fun j u hj=>?_⟩,(by intro h;cases h),h4,h5,fun _ b off hh=>?_⟩
  ·have hc9:=hr.cells (g:=g) rfl j u hj
   rw[Addr.add_lit]at hc9;rw[← hc9];exact World.cell?_of_block hb
  ·injection hh with hh
   injection hh with e1 e2;subst e1;exact ⟨cur,hb.trans h3⟩
theorem row_n {w:World} {B e k i m cp:Nat} {a:Option Addr} {xs:List Value} (hr:w.ownsRow B e k (.slice a m cp) i xs):i=m:=by
 rcases hr.2 with ⟨h1,h2⟩|⟨g,cap,cur,h1,_⟩
 ·simp at h1;omega
 ·simp at h1;omega
theorem St.rest {κ:Cx} {c:World} {M:List Bl} {r:Rwv} {R:List Rwv} {w:World} (S:St κ c M (r :: R) w):St κ c M R w :=
 ⟨S.k,S.k1,S.lc,S.oc,fun g hg=>S.own g (hg.imp id (fun ⟨x,hx,e⟩=>⟨x,List.mem_cons_of_mem _ hx,e⟩)),S.le,S.m,S.md,fun x hx=>S.r x (List.mem_cons_of_mem _ hx),(List.pairwise_cons.1 S.rd).2,fun y hy x hx=>S.mr y hy x (List.mem_cons_of_mem _ hx)⟩
theorem St.freeze9 {κ:Cx} {c:World} {M:List Bl} {R:List Rwv} {w:World} {e k n m cp:Nat} {a:Option Addr} {xs:List Value} (S:St κ c M (⟨e,k,.slice a m cp,n,xs⟩ :: R) w):∃ c',Le c c'∧Own9 c' e a m cp xs∧St κ c' M R w:=by
 have hr:w.ownsRow κ.w0.heap.size e k (.slice a m cp) n xs:=S.r _ (List.mem_cons_self ..);obtain rfl:=row_n hr
 obtain ⟨l1,l2⟩:=S.rest.learn (G:=fun g=>(Value.slice a n cp).ownBlock=some g) (fun g hg ho=>by
  rcases ho with ⟨y,hy,rfl⟩|⟨x,hx,f⟩
  ·exact S.mr y hy _ (List.mem_cons_self ..) hg
  ·exact (List.pairwise_cons.1 S.rd).1 x hx g hg f) (fun g hg=>(S.own g (.inr ⟨_,List.mem_cons_self ..,hg⟩)).2.1) (fun g hg=>(S.own g (.inr ⟨_,List.mem_cons_self ..,hg⟩)).2.2)
 exact ⟨_,l1,own_learn hr,l2⟩
section
variable {P:Program} {ops:Array Oper} {Q:Kn} {rest:List Oper} {N n:Nat} {L:List (Nat × Value)} {c:World} {M:List Bl} {R:List Rwv} {v:Value} {ty:TypeId} {ps:String} {af:Array Edge} {gd:Option (Nat × Bool)} {e k i m cp:Nat} {a:Option Addr} {xs:List Value} {ex:Exit} {xc:Code}
theorem vef9 (h:∀ c',Le c c'→Own9 c' e a m cp xs→EG P Q ex N L c' M R):EG P Q ex N L c M (⟨e,k,.slice a m cp,i,xs⟩ :: R) :=
 ⟨fun κ A w F S=>by obtain ⟨c',h1,h2,h3⟩:=S.freeze9;exact (h c' h1 h2).h κ A w F h3⟩
theorem vcf9 (h:∀ c',Le c c'→Own9 c' e a m cp xs→CG P Q xc N L c' M R):CG P Q xc N L c M (⟨e,k,.slice a m cp,i,xs⟩ :: R) :=
 ⟨fun κ A w F S=>by obtain ⟨c',h1,h2,h3⟩:=S.freeze9;exact (h c' h1 h2).h κ A w F h3⟩
end
theorem gob {G G':Prop} (k:G') (h:Nx G'→G:=by
  intro k9
  repeat1' (first
   | refine vz ?_
   | refine vf ?_
   | refine vl ?_
   | refine vn ?_
   | refine vla ?_
   | refine vno ?_
   | refine vs ?_
   | refine vrg ?_
   | refine vct ?_
   | refine vcf ?_
   | refine vk ?_
   | refine ves ?_
   | refine vx ?_
   | refine vre ?_
   | refine ver ?_
   | refine vex ?_
   | refine vebr ?_
   | refine vebx ?_
   | refine veby ?_
   | refine veb ?_
   | refine vjr ?_
   | refine vjx ?_
   | refine vkz ?_
   | refine vbe ?_
   | refine vbn ?_
   | refine vfp ?_
   | refine vno0 ?_
   | refine vln ?_
   | refine vls ?_
   | refine vad ?_
   | refine vsu ?_
   | refine vt0 ?_
   | refine vt1 ?_
   | refine vt2 ?_
   | refine vlp ?_
   | refine vbu ?_
   | refine vcT ?_
   | refine vcF ?_
   | refine vgT ?_
   | refine vgF ?_
   | refine venr ?_
   | refine vqz ?_
   | refine vqf ?_
   | refine vql ?_
   | refine vqla ?_
   | refine vqln ?_
   | refine vqls ?_
   | refine vqad ?_
   | refine vqno ?_
   | refine vqt0 ?_
   | refine vqt1 ?_
   | refine vqt2 ?_
   | refine vq ?_
   | refine vqq ?_
   | refine vqkz ?_
   | refine vix ?_
   | refine vqix ?_
   | refine vlr ?_
   | refine vlr1 ?_
   | refine vlrf ?_
   | refine vqn ?_)
  exact k9.h):G:=h ⟨k⟩
section
variable {P:Program} {t1 z1 t2 z2:Nat} {o1 o2:List Nat} {k1 k2:TK} {b1 b2:Bool} {ops:Array Oper} {Q:Kn} {rest:List Oper} {N n i fuel j:Nat} {listed listed':List Bool} {L:List (Nat × Value)} {cH c:World} {H M:List Bl} {R:List Rwv} {v:Value} {ty:TypeId} {ps:String} {af:Array Edge} {op:Op} {gd:Option (Nat × Bool)} {x y:Operand}
def Grows (P:Program) (N:Nat) (L:List (Nat × Value)) (c:World) (M:List Bl) (R:List Rwv) (op:Op) (e k i i':Nat) (u:Value) (xs xs':List Value):Prop :=
 ∀ κ A w (o:Oper),o.op=op→Vfr A N L→St κ c M (⟨e,k,u,i,xs⟩ :: R) w→∃ v' w',(execOp A.eval o).run P w=.ok (.value v') w'∧w'.ownsRow κ.w0.heap.size e k v' i' xs'∧w.grownBy w' u.ownBlock∧(v'.ownBlock=u.ownBlock∨v'.ownBlock=some w.heap.size)
theorem own_sl {w:World} {B e k n:Nat} {v:Value} {xs:List Value} (h:w.ownsRow B e k v n xs):∃ a cp,v=.slice a n cp:=by
 rcases h.2 with ⟨h1,h2⟩|⟨g,cap,cur,h1,_⟩
 ·exact ⟨none,0,by rw[h1,h2]⟩
 ·exact ⟨_,_,h1⟩
theorem Grows.st {κ:Cx} {w w':World} {e k i i':Nat} {u v':Value} {xs xs':List Value} (S:St κ c M (⟨e,k,u,i,xs⟩ :: R) w) (h1:w'.ownsRow κ.w0.heap.size e k v' i' xs') (h2:w.grownBy w' u.ownBlock) (h3:v'.ownBlock=u.ownBlock∨v'.ownBlock=some w.heap.size):St κ c M (⟨e,k,v',i',xs'⟩ :: R) w' :=
 S.grow h2 h1 (fun g hg=>by
  rcases h3 with h3|h3
  ·exact .inl (by rw[← h3,hg])
  ·rw[h3]at hg;simp at hg;exact .inr (by omega))
theorem LG.grows {e k i i':Nat} {u:Value} {xs xs':List Value} (h:∀ a' cp',LG P ops Q rest N ((n,.slice a' i' cp') :: L) c M (⟨e,k,.slice a' i' cp',i',xs'⟩ :: R)) (hg:Grows P N L c M R op e k i i' u xs xs') (hw:wtd ops L gd=some true) (hn:Nat.blt n N=true) :
  LG P ops Q (⟨some n,op,ty,ps,af,gd⟩ :: rest) N L c M (⟨e,k,u,i,xs⟩ :: R) :=
 ⟨fun κ a w F S=>by
  obtain ⟨v',w',r1,r2,r3,r4⟩:=hg κ a w ⟨some n,op,ty,ps,af,gd⟩ rfl F S;obtain ⟨a',cp',rfl⟩:=own_sl r2;exact hz_w F hn (wtd_ok F hw) r1 fun A F'=>(h a' cp').h κ A w' F' (Grows.st S r2 r3 r4)⟩
theorem HG.grows {e k i9 i':Nat} {u:Value} {xs xs':List Value} (h:∀ a' cp',HG P ops Q cH H fuel listed' N ((n,.slice a' i' cp') :: L) c M (⟨e,k,.slice a' i' cp',i',xs'⟩ :: R)) (hg:Grows P N L c M R op e k i9 i' u xs xs') (hi:ops[i]?=some ⟨some n,op,ty,ps,af,gd⟩) (hs9:setB listed i=some listed') (hr:Region.ready .any ops listed.toArray=[i]) (hw:wtd ops L gd=some true) (hn:Nat.blt n N=true) :
  HG P ops Q cH H (fuel+1) listed N L c M (⟨e,k,u,i9,xs⟩ :: R) :=
 HG.one_ (fun hC hH κ a w F S=>by
  obtain ⟨v',w',r1,r2,r3,r4⟩:=hg κ a w ⟨some n,op,ty,ps,af,gd⟩ rfl F S;obtain ⟨a',cp',rfl⟩:=own_sl r2;have S':=Grows.st S r2 r3 r4;exact wpOp_val F hi hw hn r1 fun A F'=>⟨S'.hs hC hH,(h a' cp').h hC hH κ A w' F' S'⟩) hs9 hr
theorem Grows.row [Tbv P] {t e k m cp:Nat} {a:Option Addr} {u:Value} {xs l:List Value} {i:Nat} (hr:Row c a l) (hn:a=none→cp=0) (h1:∀ z∈l,z.oneCell'=true) (hl:l.length=m * k) (hx:lko L x=some u) (hy:lko L y=some (.slice a m cp)) (hb:i+m≤100000000000) (hu:fty (Tbv.ts P) t=some ⟨t1,false,z1,o1,.sl e⟩) (hi:infoOk P e k=true) :
  Grows P N L c M R (.call { callee:=.builtin .append,args:=#[x,y],argTypes:=#[t,t] }) e k i (i+m) u xs (xs++l):=fun κ A w o ho F S=>by
 obtain ⟨I,z,q1,q2,q3,q4,q5,q6⟩:=infoOk_ok hi;have ho9:w.ownsRow κ.w0.heap.size e k u i xs:=S.r _ (List.mem_cons_self ..);cases a with
 | none =>
  obtain rfl:=hn rfl
  have h0:l=[]:=by
   rcases hr with h|⟨b,off,h,_⟩
   ·exact h
   ·cases h
  subst h0
  have hm:m=0:=by
   rcases Nat.eq_zero_or_pos m with h|h
   ·exact h
   ·have:=Nat.mul_pos h q6;simp at hl;omega
  subst hm;refine ⟨u,w,ex_builtin (l:=[x,y]) ho (gx_l1 (F.v hx) (gx_l1 (F.v hy) gx_l0)) (fun cs=>by simp only[builtin];exact gx_val (run_append_owned_none (P:=P) w κ.w0.heap.size t o.type e I k (ty_sl hu) q1 u i xs ho9)),by simpa using ho9,⟨rfl,rfl,rfl,Nat.le_refl _,fun _ _ _=>rfl⟩,.inl rfl⟩
 | some ad =>
  have hby:(i+m) * I.bytes≤140737488355328:=Nat.le_trans (Nat.mul_le_mul (Nat.le_refl _) q5) (by omega);obtain ⟨v',w',r1,r2,r3,r4,r5⟩:=run_append_own_at (P:=P) w κ.w0.heap.size t o.type e I z k I.bytes (ty_sl hu) q1 q2 q3 rfl q4 q6 u i xs ho9 ad m cp l hl (fun j z hz=>(hr.le S.le).at_add ad rfl j z hz) h1 (by simp[maxLen];omega) hby S.k.size;exact ⟨v',w',ex_builtin (l:=[x,y]) ho (gx_l1 (F.v hx) (gx_l1 (F.v hy) gx_l0)) (fun cs=>by simp only[builtin];exact gx_val r1),r2,r3,r5⟩
theorem Grows.blk [Tbv P] {t e k m cp b tb:Nat} {u:Value} {xs l:List Value} {i:Nat} (hm:⟨b,tb,l⟩∈M) (h1:l.all (·.oneCell')=true) (hl:l.length=m * k) (hx:lko L x=some u) (hy:lko L y=some (.slice (some ⟨b,0,none⟩) m cp)) (hb:i+m≤100000000000) (hu:fty (Tbv.ts P) t=some ⟨t1,false,z1,o1,.sl e⟩) (hi:infoOk P e k=true) :
  Grows P N L c M R (.call { callee:=.builtin .append,args:=#[x,y],argTypes:=#[t,t] }) e k i (i+m) u xs (xs++l):=fun κ A w o ho F S=>by
 obtain ⟨I,z,q1,q2,q3,q4,q5,q6⟩:=infoOk_ok hi;have ho9:w.ownsRow κ.w0.heap.size e k u i xs:=S.r _ (List.mem_cons_self ..);have hby:(i+m) * I.bytes≤140737488355328:=Nat.le_trans (Nat.mul_le_mul (Nat.le_refl _) q5) (by omega);obtain ⟨v',w',r1,r2,r3,r4,r5⟩:=run_append_own_at (P:=P) w κ.w0.heap.size t o.type e I z k I.bytes (ty_sl hu) q1 q2 q3 rfl q4 q6 u i xs ho9 ⟨b,0,none⟩ m cp l hl (fun j z hz=>by rw[Addr.add_lit,(S.m _ hm).cell];simpa using hz) (List.all_eq_true.1 h1) (by simp[maxLen];omega) hby S.k.size;exact ⟨v',w',ex_builtin (l:=[x,y]) ho (gx_l1 (F.v hx) (gx_l1 (F.v hy) gx_l0)) (fun cs=>by simp only[builtin];exact gx_val r1),r2,r3,r5⟩
theorem strCells_B8 (s:ByteArray):Lib.strCells s=B8 s.data.toList:=by
 simp[Lib.strCells,B8]
theorem Grows.str [Tbv P] {t e tu:Nat} {s:ByteArray} {u:Value} {xs:List Value} {i:Nat} (hx:lko L x=some u) (hy:lko L y=some (.string s)) (hb:i+s.size≤100000000000) (hu:fty (Tbv.ts P) t=some ⟨t1,false,z1,o1,.sl e⟩) (hs:fty (Tbv.ts P) tu=some ⟨t2,b2,z2,o2,.str⟩) (hi:(P.info? e).map (fun i=>(i.zero,i.size,i.bytes))=some (some (.int .u8 0),1,1)) :
  Grows P N L c M R (.call { callee:=.builtin .append,args:=#[x,y],argTypes:=#[t,tu] }) e 1 i (i+s.size) u xs (xs++B8 s.data.toList):=fun κ A w o ho F S=>by
 have ho9:w.ownsRow κ.w0.heap.size e 1 u i xs:=S.r _ (List.mem_cons_self ..)
 obtain ⟨I,hI,hz,hz1,hz2⟩:∃ I,P.info? e=some I∧I.zero=some (.int .u8 0)∧I.size=1∧I.bytes=1:=by
  cases h:P.info? e with
  | none=>rw[h]at hi;cases hi
  | some I=>rw[h]at hi;simp at hi;exact ⟨I,rfl,hi.1,hi.2.1,hi.2.2⟩
 obtain ⟨v',w',r1,r2,r3,r4⟩:=Lib.run_append_own_string (P:=P) (w:=w) κ.w0.heap.size t tu o.type e I (ty_sl hu) (ty_str hs) hI hz hz1 hz2 u i xs ho9 s (by simp[maxLen];omega) (by omega) S.k.size;rw[strCells_B8]at r2;refine ⟨v',w',ex_builtin (l:=[x,y]) ho (gx_l1 (F.v hx) (gx_l1 (F.v hy) gx_l0)) (fun cs=>by simp only[builtin];exact gx_val r1),r2,r3,?_⟩;rcases ho9.2 with ⟨rfl,h0⟩|⟨g,cap,cur,rfl,h2,h3,h4,h5,h6,h7⟩
 ·rcases Nat.eq_zero_or_pos s.size with hs0|hs0
  ·have:=r4.2 ⟨rfl,hs0⟩
   subst this;exact .inl rfl
  ·have h9:=run_append_nil_string (P:=P) (w:=w) t tu o.type e I _ (ty_sl hu) (ty_str hs) hI hz s hs0 (by omega) (by rw[hz2];omega)
   rw[h9]at r1;injection r1 with r1 _;subst r1;exact .inr rfl
 ·by_cases hroom:i+s.size≤cap
  ·have h9:=Lib.run_append_room_string (P:=P) (w:=w) t tu o.type e I (ty_sl hu) (ty_str hs) hI hz1 g i cap cur h3 s hroom (by omega)
   rw[h9]at r1;injection r1 with r1 _;subst r1;exact .inl rfl
  ·have h9:=Lib.run_append_grow_string (P:=P) (w:=w) t tu o.type e I _ (ty_sl hu) (ty_str hs) hI hz ⟨g,0,none⟩ i cap xs (by rw[hz1];exact ho9.1) (fun j v hv=>by
    have:=ho9.cells (g:=g) rfl j v hv
    exact this) s (by omega) (by omega) (by
     rw[hz2];exact growslice_fits (by omega) (by omega))
   rw[h9]at r1;injection r1 with r1 _;subst r1;exact .inr rfl
theorem vgr [Tbv P] {t e k m cp:Nat} {a:Option Addr} {u:Value} {xs l:List Value} (hr:Row c a l) (hn9:a=none→cp=0) (h1:∀ z∈l,z.oneCell'=true) (h:∀ a' cp',LG P ops Q rest N ((n,.slice a' (i+m) cp') :: L) c M (⟨e,k,.slice a' (i+m) cp',i+m,xs++l⟩ :: R)) (hx:lko L x=some u:=by rfl) (hy:lko L y=some (.slice a m cp):=by rfl) (hl:l.length=m * k:=by simp) (hb:i+m≤100000000000:=by omega) (hu:fty (Tbv.ts P) t=some ⟨t1,false,z1,o1,.sl e⟩:=by rfl) (hi:infoOk P e k=true:=by kernel_rfl) (hw:wtd ops L gd=some true:=by rfl) (hn:Nat.blt n N=true:=by rfl) :
  LG P ops Q (⟨some n,.call { callee:=.builtin .append,args:=#[x,y],argTypes:=#[t,t] },ty,ps,af,gd⟩ :: rest) N L c M (⟨e,k,u,i,xs⟩ :: R):=LG.grows h (Grows.row hr hn9 h1 hl hx hy hb hu hi) hw hn
theorem vgb [Tbv P] {t e k m cp b tb:Nat} {u:Value} {xs l:List Value} (h:∀ a' cp',LG P ops Q rest N ((n,.slice a' (i+m) cp') :: L) c M (⟨e,k,.slice a' (i+m) cp',i+m,xs++l⟩ :: R)) (hx:lko L x=some u:=by rfl) (hy:lko L y=some (.slice (some ⟨b,0,none⟩) m cp):=by rfl) (hm:⟨b,tb,l⟩∈M:=by repeat constructor) (hl:l.length=m * k:=by rfl) (h1:l.all (·.oneCell')=true:=by rfl) (hb:i+m≤100000000000:=by omega) (hu:fty (Tbv.ts P) t=some ⟨t1,false,z1,o1,.sl e⟩:=by rfl) (hi:infoOk P e k=true:=by kernel_rfl) (hw:wtd ops L gd=some true:=by rfl) (hn:Nat.blt n N=true:=by rfl) :
  LG P ops Q (⟨some n,.call { callee:=.builtin .append,args:=#[x,y],argTypes:=#[t,t] },ty,ps,af,gd⟩ :: rest) N L c M (⟨e,k,u,i,xs⟩ :: R):=LG.grows h (Grows.blk hm h1 hl hx hy hb hu hi) hw hn
theorem vqlm [Tbv P] {T b t o:Nat} {l:List Value} (k:HG P ops Q cH H fuel listed' N ((n,v) :: L) c M R) (hx:al1 ops listed=some i:=by rfl) (hs9:setB listed i=some listed':=by rfl) (hi:ops[i]?=some ⟨some n,.load T x,ty,ps,af,gd⟩:=by rfl) (hv:lko L x=some (.pointer (some ⟨b,o,none⟩)):=by rfl) (hm:⟨b,t,l⟩∈M:=by repeat constructor) (ho:nth l o=some v:=by rfl) (hT:fty (Tbv.ts P) T=some ⟨t1,false,z1,o1,k1⟩:=by rfl) (hr:Region.ready .any ops listed.toArray=[i]:=by kernel_rfl) (hw:wtd ops L gd=some true:=by rfl) (hn:Nat.blt n N=true:=by rfl):HG P ops Q cH H (fuel+1) listed N L c M R :=
 HG.one_ (fun hC hH κ a w F S=>wpOp_val F hi hw hn (ex_load rfl (F.v hv) (gl_one (ty_agg hT w) (by rw[(S.m _ hm).cell o];simpa [nth_eq] using ho))) fun a' F'=>⟨S.hs hC hH,k.h hC hH κ a' w F' S⟩) hs9 hr
theorem HG.ta {α:Type} {vf:α→Value} {cf:α→World} {M1 M2:List Bl} {R1 R2:List Rwv} {Mf:α→List Bl} {Rf:α→List Rwv} {φ:α→Prop} {f:Nat} {l:List Operand} {vs:List Value} {ats:Array TypeId} (hc:Tr P f vs c M1 R1 vf cf Mf Rf φ) (k:∀ x,φ x→HG P ops Q cH H fuel listed' N ((n,vf x) :: L) (cf x) (Mf x++M2) (Rf x++R2)) (hlc:∀ x,φ x→Le c (cf x)) (hH2:∀ x,∀ y∈H,y∈Mf x++M2) (hi:ops[i]?=some ⟨some n,.call { callee:=.value (.func f),args:=l.toArray,argTypes:=ats },ty,ps,af,gd⟩) (hs9:setB listed i=some listed') (hv:lkos L l=some vs) (hr:Region.ready .any ops listed.toArray=[i]) (hw:wtd ops L gd=some true) (hn:Nat.blt n N=true) :
  HG P ops Q cH H (fuel+1) listed N L c (M1++M2) (R1++R2) :=
 HG.one_ (fun hC hH κ a w F S=>by
  have S1:St κ c M1 R1 w:=by
   refine ⟨S.k,S.k1,S.lc,S.oc,fun g hg=>S.own g (hg.imp (fun ⟨y,hy,e⟩=>⟨y,by simp[hy],e⟩) (fun ⟨y,hy,e⟩=>⟨y,by simp[hy],e⟩)),S.le,fun y hy=>S.m y (by simp[hy]),(List.pairwise_append.1 S.md).1,fun y hy=>S.r y (by simp[hy]),(List.pairwise_append.1 S.rd).1,fun y hy x hx=>S.mr y (by simp[hy]) x (by simp[hx])⟩
  exact wpOp_call F hi hw (ex_call rfl rfl (F.vs hv) hc.e) (hc.h κ w S1) fun e w' ⟨x,h1,h2,S'⟩=>by
   have S2:=S.frame S';have hC2:=hC.trans (hlc x h2);exact ⟨vf x,h1,S2.hs hC2 (hH2 x),(k x h2).h hC2 (hH2 x) κ _ w' (F.put hn (vf x)) S2⟩) hs9 hr
theorem HG.perm {M':List Bl} (k:HG P ops Q cH H fuel listed N L c M' R) (h:M.Perm M'):HG P ops Q cH H fuel listed N L c M R:=⟨fun hC hH κ a w F S=>k.h hC (fun y hy=>h.mem_iff.1 (hH y hy)) κ a w F (S.perm h)⟩
theorem vqt1a {α:Type} {vf:α→Value} {cf:α→World} {m:Bl} {m':α→Bl} {φ:α→Prop} {f:Nat} {l:List Operand} {vs:List Value} {ats:Array TypeId} (hc:Tr P f vs c [m] [] vf cf (fun x=>[m' x]) (fun _=>[]) φ) (k:∀ x,φ x→HG P ops Q cH H fuel listed' N ((n,vf x) :: L) (cf x) (m' x :: M) R) (hlc:∀ x,φ x→Le c (cf x):=by intro _ h;first|exact Le.refl _|exact h.1) (hH2:∀ x,∀ y∈H,y∈m' x :: M:=by simp) (hxl:al1 ops listed=some i:=by rfl) (hi:ops[i]?=some ⟨some n,.call { callee:=.value (.func f),args:=l.toArray,argTypes:=ats },ty,ps,af,gd⟩:=by rfl) (hs9:setB listed i=some listed':=by rfl) (hv:lkos L l=some vs:=by rfl) (hr:Region.ready .any ops listed.toArray=[i]:=by kernel_rfl) (hw:wtd ops L gd=some true:=by rfl) (hn:Nat.blt n N=true:=by rfl) :
  HG P ops Q cH H (fuel+1) listed N L c (m :: M) R:=HG.ta (M1:=[m]) (R1:=[]) hc k hlc hH2 hi hs9 hv hr hw hn
theorem vqt1b {α:Type} {vf:α→Value} {cf:α→World} {m0 m:Bl} {m':α→Bl} {φ:α→Prop} {f:Nat} {l:List Operand} {vs:List Value} {ats:Array TypeId} (hc:Tr P f vs c [m] [] vf cf (fun x=>[m' x]) (fun _=>[]) φ) (k:∀ x,φ x→HG P ops Q cH H fuel listed' N ((n,vf x) :: L) (cf x) (m0 :: m' x :: M) R) (hlc:∀ x,φ x→Le c (cf x):=by intro _ h;first|exact Le.refl _|exact h.1) (hH2:∀ x,∀ y∈H,y∈m0 :: m' x :: M:=by simp) (hxl:al1 ops listed=some i:=by rfl) (hi:ops[i]?=some ⟨some n,.call { callee:=.value (.func f),args:=l.toArray,argTypes:=ats },ty,ps,af,gd⟩:=by rfl) (hs9:setB listed i=some listed':=by rfl) (hv:lkos L l=some vs:=by rfl) (hr:Region.ready .any ops listed.toArray=[i]:=by kernel_rfl) (hw:wtd ops L gd=some true:=by rfl) (hn:Nat.blt n N=true:=by rfl) :
  HG P ops Q cH H (fuel+1) listed N L c (m0 :: m :: M) R :=
 (HG.ta (M1:=[m]) (R1:=[]) hc (fun x h=>(k x h).perm (.swap _ _ _)) hlc (fun x y hy=>(List.Perm.swap _ _ _).mem_iff.1 (hH2 x y hy)) hi hs9 hv hr hw hn).perm (.swap _ _ _)
theorem vqtn {α:Type} {vf:α→Value} {ψ:α→World→Prop} {f:Nat} {l:List Operand} {vs:List Value} {ats:Array TypeId} (hc:Tn P f vs c vf ψ) (k:∀ x c',Le c c'→ψ x c'→HG P ops Q cH H fuel listed' N ((n,vf x) :: L) c' M R) (hH2:∀ y∈H,y∈M:=by simp) (hxl:al1 ops listed=some i:=by rfl) (hi:ops[i]?=some ⟨some n,.call { callee:=.value (.func f),args:=l.toArray,argTypes:=ats },ty,ps,af,gd⟩:=by rfl) (hs9:setB listed i=some listed':=by rfl) (hv:lkos L l=some vs:=by rfl) (hr:Region.ready .any ops listed.toArray=[i]:=by kernel_rfl) (hw:wtd ops L gd=some true:=by rfl) (hn:Nat.blt n N=true:=by rfl) :
  HG P ops Q cH H (fuel+1) listed N L c M R:=HG.ta (M1:=[]) (R1:=[]) hc (fun x h=>k x.1 x.2 h.1 h.2) (fun x h=>h.1) (fun x y hy=>hH2 y hy) hi hs9 hv hr hw hn
def nthR (ops:Array Oper) (listed:List Bool) (k:Nat):Option Nat:=((rdy listed 0 listed ops.toList)[k]?).map (·.1)
structure Qh (P:Program) (N:Nat) (L:List (Nat × Value)) (cH:World) (H:List Bl) (op:Op) (v:Value):Prop where
 h:∀ a w (o:Oper),o.op=op→Vfr a N L→Hs cH H w→(execOp a.eval o).run P w=.ok (.value v) w
theorem qh_q (h:Qo P N L cH op v):Qh P N L cH H op v:=⟨fun a w o ho F hs=>h.h a w o ho F hs.1⟩
theorem qh_s (h:stepV L op=some v):Qh P N L cH H op v:=⟨fun a w o ho F _=>stepV_ok F (by rw[ho];exact h)⟩
theorem qh_f [Tbv P] {S K b o f:Nat} (hv:lko L x=some (.pointer (some ⟨b,o,none⟩))) (hT:fty (Tbv.ts P) S=some ⟨t1,true,z1,o1,k1⟩) (hk:nthn o1 K=some f):Qh P N L cH H (.fieldAddr S x K) (.pointer (some ⟨b,o+f,none⟩)) :=
 ⟨fun a w o ho F _=>ex_faddr ho (F.v hv) (by rw[ty_field hT hk w,Addr.add_lit])⟩
theorem qh_l [Tbv P] {T b t o:Nat} {l:List Value} (hv:lko L x=some (.pointer (some ⟨b,o,none⟩))) (hm:⟨b,t,l⟩∈H) (hl:nth l o=some v) (hT:fty (Tbv.ts P) T=some ⟨t1,false,z1,o1,k1⟩):Qh P N L cH H (.load T x) v :=
 ⟨fun a w o9 ho F hs=>ex_load ho (F.v hv) (gl_one (ty_agg hT w) (by rw[(hs.2 _ hm).cell o];simpa [nth_eq] using hl))⟩
theorem qh_a [Tbv P] {T b t:Nat} {l:List Value} (hv:lko L x=some (.pointer (some ⟨b,0,none⟩))) (hm:⟨b,t,l⟩∈H) (hT:fty (Tbv.ts P) T=some ⟨t1,true,z1,o1,k1⟩) (hz:l.length=z1):Qh P N L cH H (.load T x) (.agg l.toArray) :=
 ⟨fun a w o9 ho F hs=>ex_load ho (F.v hv) (gl_agg l.toArray (by simpa using hz) (ty_agg hT w) (ty_size hT w) (fun i=>(hs.2 _ hm).cell i))⟩
theorem vqx (j:Nat) (k:HG P ops Q cH H fuel listed' N ((n,v) :: L) c M R) (hx:nthR ops listed j=some i:=by rfl) (hs9:setB listed i=some listed':=by rfl) (hi:ops[i]?=some ⟨some n,op,ty,ps,af,gd⟩:=by rfl) (h:Qh P N L cH H op v:=by first|exact qh_s rfl|exact qh_f rfl rfl rfl|exact qh_l rfl (by repeat constructor) rfl rfl|exact qh_a rfl (by repeat constructor) rfl rfl) (hr:frq ops listed i=true:=by kernel_rfl)
  (hQ:∀ κ c a w,Q κ (.panic c) (a.put (some n) v) w→Q κ (.panic c) a w:=by exact fun _ _ _ _ h=>h) (hw:wtd ops L gd=some true:=by rfl) (hn:Nat.blt n N=true:=by rfl):HG P ops Q cH H (fuel+1) listed N L c M R :=
 k.take_ (fun a w F hs=>h.h a w _ rfl F hs) hi hs9 hr hQ hw hn
structure HI (P:Program) (ops:Array Oper) (Q:Kn) (cH:World) (H:List Bl) (fuel:Nat) (listed:List Bool) (i:Nat) (N:Nat) (L:List (Nat × Value)) (c:World) (M:List Bl) (R:List Rwv):Prop where
 h:Le cH c→(∀ y∈H,y∈M)→∀ κ a w,Vfr a N L→St κ c M R w→wpOp P ops (Q κ) i (fun a' w'=>Hs cH H w'∧wpAnyH P .any ops (Q κ) (Hs cH H) fuel (listed.toArray.setIfInBounds i true) a' w') a w
theorem vq2 {j:Nat} (h1:HI P ops Q cH H fuel listed i N L c M R) (h2:HI P ops Q cH H fuel listed j N L c M R) (hr:Region.ready .any ops listed.toArray=[i,j]:=by kernel_rfl):HG P ops Q cH H (fuel+1) listed N L c M R :=
 ⟨fun hC hH κ a w F S=>wpAnyH_all hr (by simp) fun k hk=>by
  rcases List.mem_cons.1 hk with rfl|hk
  ·exact h1.h hC hH κ a w F S
  ·obtain rfl:=List.mem_singleton.1 hk
   exact h2.h hC hH κ a w F S⟩
theorem viA {t:TypeId} {l:List Value} {mk:Nat→Value} (k:∀ b,HG P ops Q cH H fuel listed' N ((n,mk b) :: L) c (⟨b,t,l⟩ :: M) R) (hs9:setB listed i=some listed':=by rfl) (hi:ops[i]?=some ⟨some n,op,ty,ps,af,gd⟩:=by rfl) (h:AlOk P N L op mk t l:=by first|exact ao1 rfl|exact ao2 rfl rfl|exact ao3 rfl|exact ao4 rfl rfl|exact ao5 rfl rfl rfl (by intro _;kernel_rfl)) (hw:wtd ops L gd=some true:=by rfl) (hn:Nat.blt n N=true:=by rfl):HI P ops Q cH H fuel listed i N L c M R :=
 ⟨fun hC hH κ a w F S=>wpOp_val F hi hw hn (h a w _ F rfl) fun a' F'=>by rw[setB_arr hs9];exact ⟨(S.new t l).hs hC (fun y hy=>List.mem_cons_of_mem _ (hH y hy)),(k w.heap.size).h hC (fun y hy=>List.mem_cons_of_mem _ (hH y hy)) κ a' _ F' (S.new t l)⟩⟩
theorem vilm [Tbv P] {T b t o:Nat} {l:List Value} (k:HG P ops Q cH H fuel listed' N ((n,v) :: L) c M R) (hs9:setB listed i=some listed':=by rfl) (hi:ops[i]?=some ⟨some n,.load T x,ty,ps,af,gd⟩:=by rfl) (hv:lko L x=some (.pointer (some ⟨b,o,none⟩)):=by rfl) (hm:⟨b,t,l⟩∈M:=by repeat constructor) (ho:nth l o=some v:=by rfl) (hT:fty (Tbv.ts P) T=some ⟨t1,false,z1,o1,k1⟩:=by rfl) (hw:wtd ops L gd=some true:=by rfl) (hn:Nat.blt n N=true:=by rfl):HI P ops Q cH H fuel listed i N L c M R :=
 ⟨fun hC hH κ a w F S=>wpOp_val F hi hw hn (ex_load rfl (F.v hv) (gl_one (ty_agg hT w) (by rw[(S.m _ hm).cell o];simpa [nth_eq] using ho))) fun a' F'=>by rw[setB_arr hs9];exact ⟨S.hs hC hH,k.h hC hH κ a' w F' S⟩⟩
theorem HI.ta {α:Type} {vf:α→Value} {cf:α→World} {M1 M2:List Bl} {R1 R2:List Rwv} {Mf:α→List Bl} {Rf:α→List Rwv} {φ:α→Prop} {f:Nat} {l:List Operand} {vs:List Value} {ats:Array TypeId} (hc:Tr P f vs c M1 R1 vf cf Mf Rf φ) (k:∀ x,φ x→HG P ops Q cH H fuel listed' N ((n,vf x) :: L) (cf x) (Mf x++M2) (Rf x++R2)) (hlc:∀ x,φ x→Le c (cf x)) (hH2:∀ x,∀ y∈H,y∈Mf x++M2) (hi:ops[i]?=some ⟨some n,.call { callee:=.value (.func f),args:=l.toArray,argTypes:=ats },ty,ps,af,gd⟩) (hs9:setB listed i=some listed') (hv:lkos L l=some vs) (hw:wtd ops L gd=some true) (hn:Nat.blt n N=true) :
  HI P ops Q cH H fuel listed i N L c (M1++M2) (R1++R2) :=
 ⟨fun hC hH κ a w F S=>wpOp_call F hi hw (ex_call rfl rfl (F.vs hv) hc.e) (hc.h κ w S.part) fun e w' ⟨x,h1,h2,S'⟩=>by
  have S2:=S.frame S';have hC2:=hC.trans (hlc x h2);rw[setB_arr hs9];exact ⟨vf x,h1,S2.hs hC2 (hH2 x),(k x h2).h hC2 (hH2 x) κ _ w' (F.put hn (vf x)) S2⟩⟩
theorem HI.perm {M':List Bl} (k:HI P ops Q cH H fuel listed i N L c M' R) (h:M.Perm M'):HI P ops Q cH H fuel listed i N L c M R:=⟨fun hC hH κ a w F S=>k.h hC (fun y hy=>h.mem_iff.1 (hH y hy)) κ a w F (S.perm h)⟩
theorem vitn {α:Type} {vf:α→Value} {ψ:α→World→Prop} {f:Nat} {l:List Operand} {vs:List Value} {ats:Array TypeId} (hc:Tn P f vs c vf ψ) (k:∀ x c',Le c c'→ψ x c'→HG P ops Q cH H fuel listed' N ((n,vf x) :: L) c' M R) (hH2:∀ y∈H,y∈M:=by simp) (hi:ops[i]?=some ⟨some n,.call { callee:=.value (.func f),args:=l.toArray,argTypes:=ats },ty,ps,af,gd⟩:=by rfl) (hs9:setB listed i=some listed':=by rfl) (hv:lkos L l=some vs:=by rfl) (hw:wtd ops L gd=some true:=by rfl) (hn:Nat.blt n N=true:=by rfl) :
  HI P ops Q cH H fuel listed i N L c M R:=HI.ta (M1:=[]) (R1:=[]) hc (fun x h=>k x.1 x.2 h.1 h.2) (fun x h=>h.1) (fun x y hy=>hH2 y hy) hi hs9 hv hw hn
theorem vi1b {α:Type} {vf:α→Value} {cf:α→World} {m0 m:Bl} {m':α→Bl} {φ:α→Prop} {f:Nat} {l:List Operand} {vs:List Value} {ats:Array TypeId} (hc:Tr P f vs c [m] [] vf cf (fun x=>[m' x]) (fun _=>[]) φ) (k:∀ x,φ x→HG P ops Q cH H fuel listed' N ((n,vf x) :: L) (cf x) (m0 :: m' x :: M) R) (hlc:∀ x,φ x→Le c (cf x):=by intro _ h;first|exact Le.refl _|exact h.1) (hH2:∀ x,∀ y∈H,y∈m0 :: m' x :: M:=by simp) (hi:ops[i]?=some ⟨some n,.call { callee:=.value (.func f),args:=l.toArray,argTypes:=ats },ty,ps,af,gd⟩:=by rfl) (hs9:setB listed i=some listed':=by rfl) (hv:lkos L l=some vs:=by rfl) (hw:wtd ops L gd=some true:=by rfl) (hn:Nat.blt n N=true:=by rfl) :
  HI P ops Q cH H fuel listed i N L c (m0 :: m :: M) R :=
 (HI.ta (M1:=[m]) (R1:=[]) hc (fun x h=>(k x h).perm (.swap _ _ _)) hlc (fun x y hy=>(List.Perm.swap _ _ _).mem_iff.1 (hH2 x y hy)) hi hs9 hv hw hn).perm (.swap _ _ _)
theorem vqe {v':Value} (e:v=v') (k:HG P ops Q cH H fuel listed N ((n,v') :: L) c M R):HG P ops Q cH H fuel listed N ((n,v) :: L) c M R:=e▸k
theorem vme {M':List Bl} (e:M=M') (k:LG P ops Q rest N L c M' R):LG P ops Q rest N L c M R:=e▸k
theorem vck {α:Type} {xc yc:Code} (Lf:α→List (Nat × Value)) (cf:α→World) (Mf:α→List Bl) (Rf:α→List Rwv) (φ:α→Prop) (k:CG P (KJ (Jn N Lf cf Mf Rf φ (fun _=>0) 1) Q) xc N L c M R) (k2:∀ z,φ z→CG P Q yc N (Lf z) (cf z) (Mf z) (Rf z)):CG P (KS P yc Q) xc N L c M R :=
 ⟨fun κ a w F S=>wp_mono (k.h κ a w F S) fun e a w h=>by
  cases e with
  | normal =>
   obtain ⟨y,h1,h2,h3,h4⟩:=h.h;exact (k2 y h2).h κ a w h3 h4
  | exit id=>exact h
  | goto l=>exact h
  | ret=>exact h
  | panic ch=>exact h
  | outgrown=>exact h⟩
theorem qmi {k k':IntKind} {p q:Int} {ats:Array TypeId} (hx:lko L x=some (.int k p)) (hy:lko L y=some (.int k' q)):Qo P N L c (.call { callee:=.builtin .min,args:=#[x,y],argTypes:=ats }) (.int k (min p q)) :=
 ⟨fun A w o ho F _=>ex_builtin (l:=[x,y]) ho (gx_l1 (F.v hx) (gx_l1 (F.v hy) gx_l0)) (fun cs=>by
  simp only[builtin];have e:(if q < p then q else p)=min p q:=by rw[Int.min_def];split<;>split<;>omega
  exact gx_val (by rw[← e];exact run_min_int2 _ _ _ k k' p q))⟩
theorem vmi {k k':IntKind} {p q:Int} {ats:Array TypeId} (kk:LG P ops Q rest N ((n,.int k (min p q)) :: L) c M R) (hx:lko L x=some (.int k p):=by rfl) (hy:lko L y=some (.int k' q):=by rfl) (hw:wtd ops L gd=some true:=by rfl) (hn:Nat.blt n N=true:=by rfl) :
  LG P ops Q (⟨some n,.call { callee:=.builtin .min,args:=#[x,y],argTypes:=ats },ty,ps,af,gd⟩ :: rest) N L c M R:=kk.do_ (fun κ a w F S=>(qmi (c:=c) hx hy).h a w _ rfl F S.le) hw hn
end
section
variable {P:Program} {ops:Array Oper} {Q:Kn} {rest:List Oper} {N n:Nat} {L:List (Nat × Value)} {c:World} {M:List Bl} {R:List Rwv} {v:Value} {ty:TypeId} {ps:String} {af:Array Edge} {gd:Option (Nat × Bool)} {x y:Operand} {e:Exit} {xc:Code}
theorem vpz {t u:TypeId} {p:Option Addr} (k:LG P ops Q rest N ((n,.bool p.isNone) :: L) c M R) (hx:lko L x=some (.pointer p):=by rfl) (hy:lko L y=some (.pointer none):=by rfl) (hu:P.underlying t=some (.pointer (P.pointee t)):=by kernel_rfl) (hw:wtd ops L gd=some true:=by rfl) (hn:Nat.blt n N=true:=by rfl) :
  LG P ops Q (⟨some n,.binOp .eql t x y u,ty,ps,af,gd⟩ :: rest) N L c M R:=k.do_ (fun κ a w F S=>ex_bin rfl (F.v hx) (F.v hy) (run_eql_pointer_nil w t p hu)) hw hn
theorem vpzn {t u:TypeId} {p:Option Addr} (k:LG P ops Q rest N ((n,.bool (!p.isNone)) :: L) c M R) (hx:lko L x=some (.pointer p):=by rfl) (hy:lko L y=some (.pointer none):=by rfl) (hu:P.underlying t=some (.pointer (P.pointee t)):=by kernel_rfl) (hw:wtd ops L gd=some true:=by rfl) (hn:Nat.blt n N=true:=by rfl) :
  LG P ops Q (⟨some n,.binOp .neq t x y u,ty,ps,af,gd⟩ :: rest) N L c M R:=k.do_ (fun κ a w F S=>ex_bin rfl (F.v hx) (F.v hy) (run_neq_pointer_nil w t p hu)) hw hn
def KN (Q:Kn):Kn:=fun κ=>Exit.noGoto (Q κ)
theorem vsc (k:CG P (KN Q) xc N L c M R):CG P Q (.scope xc) N L c M R:=⟨fun κ a w F S=>wp_scope_straight (k.h κ a w F S)⟩
theorem vlb {l:Nat} (k:EG P Q .normal N L c M R):CG P Q (.label l) N L c M R:=⟨fun κ a w F S=>wp_label (k.h κ a w F S)⟩
theorem vscr (k:EG P Q .ret N L c M R):EG P (KN Q) .ret N L c M R:=⟨fun κ a w F S=>k.h κ a w F S⟩
theorem LG.permr {R':List Rwv} (k:LG P ops Q rest N L c M R') (h:R.Perm R'):LG P ops Q rest N L c M R:=⟨fun κ a w F S=>k.h κ a w F (S.permr h)⟩
theorem EG.permr {R':List Rwv} (k:EG P Q e N L c M R') (h:R.Perm R'):EG P Q e N L c M R:=⟨fun κ a w F S=>k.h κ a w F (S.permr h)⟩
theorem LG.dropr {r:Rwv} (k:LG P ops Q rest N L c M R):LG P ops Q rest N L c M (r :: R):=⟨fun κ a w F S=>k.h κ a w F S.rest⟩
theorem CG.dropr {r:Rwv} (k:CG P Q xc N L c M R):CG P Q xc N L c M (r :: R):=⟨fun κ a w F S=>k.h κ a w F S.rest⟩
theorem EG.dropr {r:Rwv} (k:EG P Q e N L c M R):EG P Q e N L c M (r :: R):=⟨fun κ a w F S=>k.h κ a w F S.rest⟩
theorem EG.nilr (e9 k:Nat) (h:EG P Q e N L c M (⟨e9,k,.slice none 0 0,0,[]⟩ :: R)):EG P Q e N L c M R:=⟨fun κ a w F S=>h.h κ a w F (S.nilrow e9 k)⟩
theorem CG.permr {R':List Rwv} (k:CG P Q xc N L c M R') (h:R.Perm R'):CG P Q xc N L c M R:=⟨fun κ a w F S=>k.h κ a w F (S.permr h)⟩
theorem CG.nilr (e k:Nat) (h:CG P Q xc N L c M (⟨e,k,.slice none 0 0,0,[]⟩ :: R)):CG P Q xc N L c M R:=⟨fun κ a w F S=>h.h κ a w F (S.nilrow e k)⟩
theorem vrt2b [Tbv P] {α:Type} {vf:α→Value} {cf:α→World} {Mf:α→List Bl} {Rf:α→List Rwv} {φ:α→Prop} {fn:Func} {r1 r2:ResultVar} {x1 x2:Value} {M2:List Bl} {R2:List Rwv} (x:α) (hφ:φ x) (hv:Value.tuple #[x1,x2]=vf x:=by rfl) (hc:c=cf x:=by rfl) (hM:M=Mf x++M2:=by rfl) (hR:R=Rf x++R2:=by rfl) (hr:fn.results=#[r1,r2]:=by rfl) (h:RvOk P L M [r1,r2] [x1,x2]:=by repeat' (first|exact rv0|refine rvt rfl ?_|refine rvc rfl (by repeat constructor) rfl rfl ?_|refine rvs rfl (by repeat constructor) rfl rfl ?_)):EG P (KR P fn (Tv vf cf Mf Rf φ)) .ret N L c M R:=by
 subst hc hM hR;exact vr2 (fun κ w S=>⟨x,by rw[hv],hφ,S.part⟩) hr h
theorem vtl {e k i m cp:Nat} {a:Option Addr} {xs:List Value} {bl bl':Bl} {f:Nat} {l:List Operand} {vs:List Value} {ats:Array TypeId} (hc:∀ c',Le c c'→Own9 c' e a m cp xs→Tr P f vs c' [bl] [] (fun _:World=>v) (fun x=>x) (fun _=>[bl']) (fun _=>[]) (fun x=>Le c' x)) (kk:LG P ops Q rest N ((n,v) :: L) c (bl' :: M) (⟨e,k,.slice a m cp,i,xs⟩ :: R)) (hx:lkos L l=some vs:=by rfl) (hw:wtd ops L gd=some true:=by rfl) (hn:Nat.blt n N=true:=by rfl) :
  LG P ops Q (⟨some n,.call { callee:=.value (.func f),args:=l.toArray,argTypes:=ats },ty,ps,af,gd⟩ :: rest) N L c (bl :: M) (⟨e,k,.slice a m cp,i,xs⟩ :: R) :=
 ⟨fun κ A w F S=>by
  have hr:w.ownsRow κ.w0.heap.size e k (.slice a m cp) i xs:=S.r _ (List.mem_cons_self ..);obtain rfl:=row_n hr;have S1:St κ c [bl] [] w:=St.part (M2:=M) (R1:=[]) S
  obtain ⟨l1,l2⟩:=S1.learn (G:=fun g=>(Value.slice a i cp).ownBlock=some g) (fun g hg ho=>by
   rcases ho with ⟨y,hy,rfl⟩|⟨y,hy,_⟩
   ·exact S.mr y (by rw[List.mem_singleton.1 hy];exact List.mem_cons_self ..) _ (List.mem_cons_self ..) hg
   ·cases hy) (fun g hg=>(S.own g (.inr ⟨_,List.mem_cons_self ..,hg⟩)).2.1) (fun g hg=>(S.own g (.inr ⟨_,List.mem_cons_self ..,hg⟩)).2.2)
  have hk:=hc _ l1 (own_learn hr);refine vkc_ (wtd_ok F hw) (ex_call rfl rfl (F.vs hx) hk.e) (hk.h κ w l2) fun e' w' ⟨x,h1,h2,S'⟩=>⟨v,h1,kk.h κ _ w' (F.put hn v) ?_⟩
  have l3:=l1.trans h2;have S2:St ⟨κ.w0,w,Own [bl] [],c⟩ c [bl'] [] w':=⟨S'.k,S'.k1,Le.refl c,fun g _ _ h=>h,fun g hg=>⟨(S'.own g hg).1,(S'.own g hg).2.1,(S'.own g hg).2.2.le l3⟩,l3.trans S'.le,S'.m,S'.md,S'.r,S'.rd,S'.mr⟩
  exact St.frame (M1:=[bl]) (R1:=[]) S S2⟩
theorem vqst [Tbv P] {b1:Bool} {t1 z1 t3 i fuel cp m:Nat} {o1 o3:List Nat} {b3:Bool} {hi9:Operand} {listed listed':List Bool} {ops:Array Oper} {cH:World} {H:List Bl} {l:List UInt8} {q:Int} {t e:TypeId} {k:IntKind} {a:Option Addr} (j:Nat) (kk:∀ a',Row c a' (B8 (l.take q.toNat))→(a'=none→cp=0)→HG P ops Q cH H fuel listed' N ((n,.slice a' q.toNat cp) :: L) c M R) (hxl:nthR ops listed j=some i:=by rfl) (hs9:setB listed i=some listed':=by rfl) (hi:ops[i]?=some ⟨some n,.slice t x none (some hi9) none,ty,ps,af,gd⟩:=by rfl) (hx:lko L x=some (.slice a m cp):=by rfl) (hh:lko L hi9=some (.int k q):=by rfl) (hr:Row c a (B8 l):=by assumption) (hm:l.length≤cp:=by first|assumption|omega) (hn9:a=none→cp=0:=by assumption) (hs:fty (Tbv.ts P) t=some ⟨t1,b1,z1,o1,.sl e⟩:=by rfl) (he:fty (Tbv.ts P) e=some ⟨t3,b3,1,o3,.int .u8⟩:=by rfl) (h0:0≤q:=by omega) (h2:q≤cp:=by omega) (hr9:frq ops listed i=true:=by kernel_rfl)
  (hQ:∀ u κ c a w,Q κ (.panic c) (a.put (some n) u) w→Q κ (.panic c) a w:=by exact fun _ _ _ _ _ h=>h) (hw:wtd ops L gd=some true:=by rfl) (hn:Nat.blt n N=true:=by rfl):HG P ops Q cH H (fuel+1) listed N L c M R :=
 (kk (if cp=0 then a else a.map (·.add (0 * 1))) (by simpa using B8_part hr (p:=0) (q:=q.toNat) hm) (by simpa using sl_nil (p:=0) hn9)).take_ (fun A w F _=>ex_slice rfl (F.v hx) (l:=none) (h:=some (.int k q)) (m:=none) rfl (by simp[F.v hh]) rfl (by
  have ht:=ty_sl hs;have hE:P.elem t=e:=by simp[Program.elem,ht]
  rw[run_sliceAt_slice w t _ _ _ _ (by rw[hE];exact ht),run_slice_h w t a m cp (by rw[hE];exact ht) k q h0 h2,hE,ty_size he w]
  rfl)) hi hs9 hr9 (hQ _) hw hn
theorem vqbu [Tbv P] {t1 i fuel:Nat} {o1:List Nat} {z1:Nat} {k1:TK} {listed listed':List Bool} {ops:Array Oper} {cH:World} {H:List Bl} {t:TypeId} {l:List (Nat × Operand)} {vs:List (Nat × Value)} {z cs:List Value} (j:Nat) (k:HG P ops Q cH H fuel listed' N ((n,.agg cs.toArray) :: L) c M R) (hxl:nthR ops listed j=some i:=by rfl) (hs9:setB listed i=some listed':=by rfl) (hi:ops[i]?=some ⟨some n,.build t l.toArray,ty,ps,af,gd⟩:=by rfl) (hx:lkps L l=some vs:=by rfl) (hT:fty (Tbv.ts P) t=some ⟨t1,true,z1,o1,k1⟩:=by rfl) (hz:fz (Tbv.zs P) t=some (.agg z.toArray):=by rfl) (hb:bldL o1 vs z=some cs:=by rfl) (h:P.built t vs=some cs.toArray:=by kernel_rfl) (hr9:frq ops listed i=true:=by kernel_rfl)
  (hQ:∀ u κ c a w,Q κ (.panic c) (a.put (some n) u) w→Q κ (.panic c) a w:=by exact fun _ _ _ _ _ h=>h) (hw:wtd ops L gd=some true:=by rfl) (hn:Nat.blt n N=true:=by rfl):HG P ops Q cH H (fuel+1) listed N L c M R :=
 k.take_ (fun A w F _=>ex_build rfl (F.ps hx) h) hi hs9 hr9 (hQ _) hw hn
theorem Tr.ownr {e k n f : Nat} {fn : Func} {args : List Value} {xs : List Value} (hf : P.funcs[f]? = some fn) (h : ∀ w, Le c w → Calls P f args.toArray w fun ed w' => ∃ a cp, ed = .returned (.slice a n cp) ∧ w'.ownsRow w.heap.size e k (.slice a n cp) n xs ∧ Kept No w w') (hb : fn.body.isNone = false := by rfl) (hg : (fn.name == "runtime.NumGoroutine") = false := by kernel_rfl) :
  Tr P f args c [] [] (fun x:Option Addr × Nat=>.slice x.1 n x.2) (fun _=>c) (fun _=>[]) (fun x=>[⟨e,k,.slice x.1 n x.2,n,xs⟩]) (fun _=>True) :=
 ⟨fun args w=>gx_fn hf hg hb args w,fun κ w S=>(h w S.le).mono fun ed w' ⟨a,cp,h1,h2,h3⟩=>⟨(a,cp),h1,trivial,by
  have l1:=S.k.size;have l2:=S.le.size;refine ⟨S.k.trans h3,h3.any,Le.refl c,fun g _ _ h=>h,fun g hg=>?_,S.le.no h3,by simp,.nil,fun x hx=>?_,List.pairwise_singleton _ _,by simp⟩
  ·rcases hg with ⟨y,hy,_⟩|⟨y,hy,hg⟩
   ·cases hy
   ·rw[List.mem_singleton.1 hy]at hg
    have:=(h2.lt g hg).1
    exact ⟨Nat.le_trans l1 this,.inr this,.inl (Nat.le_trans l2 this)⟩
  ·rw[List.mem_singleton.1 hx]
   exact ⟨h2.1,h2.2.imp id fun ⟨g,cap,cur,q1,q2,q3⟩=>⟨g,cap,cur,q1,Nat.le_trans l1 q2,q3⟩⟩⟩⟩
theorem vt0r {α:Type} {vf:α→Value} {cf:α→World} {r':α→Rwv} {φ:α→Prop} {f:Nat} {l:List Operand} {vs:List Value} {ats:Array TypeId} (hc:Tr P f vs c [] [] vf cf (fun _=>[]) (fun x=>[r' x]) φ) (k:∀ x,φ x→LG P ops Q rest N ((n,vf x) :: L) (cf x) M (r' x :: R)) (hx:lkos L l=some vs:=by rfl) (hw:wtd ops L gd=some true:=by rfl) (hn:Nat.blt n N=true:=by rfl) :
  LG P ops Q (⟨some n,.call { callee:=.value (.func f),args:=l.toArray,argTypes:=ats },ty,ps,af,gd⟩ :: rest) N L c M R :=
 vta (M1:=[]) (R1:=[]) hc k hx hw hn
end
theorem fm_nth {α:Type} {f:α→List Value} {k:Nat}:∀ {L:List α},(∀ x∈L,(f x).length=k)→∀ {j:Nat} (hj:j < L.length) {i:Nat} {v:Value},nth (f L[j]) i=some v→(L.flatMap f)[j * k+i]?=some v
 | [],_,j,hj,i,v,h=>by simp at hj
 | x :: L,hk,0,hj,i,v,h=>by
  rw[nth_eq]at h;have h1:i < (f x).length:=(List.getElem?_eq_some_iff.1 h).1;simp only[List.flatMap_cons,Nat.zero_mul,Nat.zero_add];rw[List.getElem?_append_left h1];exact h
 | x :: L,hk,j+1,hj,i,v,h=>by
  have h0:=hk x (List.mem_cons_self ..);simp only[List.flatMap_cons];rw[List.getElem?_append_right (by rw[h0,Nat.succ_mul];omega),show (j+1) * k+i - (f x).length=j * k+i by rw[h0,Nat.succ_mul];omega];exact fm_nth (fun y hy=>hk y (List.mem_cons_of_mem _ hy)) (by simpa using hj) h
theorem fm_len {α:Type} {f:α→List Value} {k:Nat}:∀ {L:List α},(∀ x∈L,(f x).length=k)→(L.flatMap f).length=L.length * k
 | [],_=>by simp
 | x :: L,hk=>by
  rw[List.flatMap_cons,List.length_append,hk x (List.mem_cons_self ..),fm_len (fun y hy=>hk y (List.mem_cons_of_mem _ hy)),List.length_cons,Nat.succ_mul];omega
theorem Row.fm {α:Type} {f:α→List Value} {k:Nat} {c:World} {a:Option Addr} {L:List α} (h:Row c a (L.flatMap f)) (hk:∀ x∈L,(f x).length=k) (h0:0 < k) {j:Nat} (hj:j < L.length):∃ b o,Rat c a k j b o (f L[j]) :=
 h.rat k j _ (fun i v hv=>fm_nth hk hj hv) (by rw[fm_len hk];exact Nat.mul_lt_mul_of_pos_right hj h0)
section
variable {P:Program} {t1 z1 t2 z2:Nat} {o1 o2:List Nat} {k1 k2:TK} {b1 b2:Bool} {ops:Array Oper} {Q:Kn} {rest:List Oper} {N n i fuel j:Nat} {listed listed':List Bool} {L:List (Nat × Value)} {cH c:World} {H M:List Bl} {R:List Rwv} {v:Value} {ty:TypeId} {ps:String} {af:Array Edge} {op:Op} {gd:Option (Nat × Bool)} {x y:Operand}
theorem HG.nilr (e k:Nat) (h:HG P ops Q cH H fuel listed N L c M (⟨e,k,.slice none 0 0,0,[]⟩ :: R)):HG P ops Q cH H fuel listed N L c M R:=⟨fun hC hH κ a w F S=>h.h hC hH κ a w F (S.nilrow e k)⟩
theorem HI.nilr (e k:Nat) (h:HI P ops Q cH H fuel listed i N L c M (⟨e,k,.slice none 0 0,0,[]⟩ :: R)):HI P ops Q cH H fuel listed i N L c M R:=⟨fun hC hH κ a w F S=>h.h hC hH κ a w F (S.nilrow e k)⟩
theorem HI.grows {e k i9 i':Nat} {u:Value} {xs xs':List Value} (h:∀ a' cp',HG P ops Q cH H fuel listed' N ((n,.slice a' i' cp') :: L) c M (⟨e,k,.slice a' i' cp',i',xs'⟩ :: R)) (hg:Grows P N L c M R op e k i9 i' u xs xs') (hi:ops[i]?=some ⟨some n,op,ty,ps,af,gd⟩) (hs9:setB listed i=some listed') (hw:wtd ops L gd=some true) (hn:Nat.blt n N=true) :
  HI P ops Q cH H fuel listed i N L c M (⟨e,k,u,i9,xs⟩ :: R) :=
 ⟨fun hC hH κ a w F S=>by
  obtain ⟨v',w',r1,r2,r3,r4⟩:=hg κ a w ⟨some n,op,ty,ps,af,gd⟩ rfl F S;obtain ⟨a',cp',rfl⟩:=own_sl r2;have S':=Grows.st S r2 r3 r4;exact wpOp_val F hi hw hn r1 fun A F'=>by rw[setB_arr hs9];exact ⟨S'.hs hC hH,(h a' cp').h hC hH κ A w' F' S'⟩⟩
theorem vbc [Tbv P] {t e m n2:Nat} {l9:List (Nat × Operand)} {vs:List (Nat × Value)} {ty2:TypeId} {ps2:String} {af2:Array Edge} (l:List UInt8) (k:∀ c' b,Le c c'→Row c' (some ⟨b,0,none⟩) (B8 l)→LG P ops Q rest N ((n2,.slice (some ⟨b,0,none⟩) m m) :: (n,.slice (some ⟨b,0,none⟩) m m) :: L) c' M R) (hx:lkps L l9=some vs:=by rfl) (hB:∀ w,(Instr.buildSlice t m vs.toArray).run P w=.ok (.slice (some ⟨w.heap.size,0,none⟩) m m) (w.alloc (.cells (B8 l).toArray e)):=by intro _;kernel_rfl) (hs:fty (Tbv.ts P) t=some ⟨t1,b1,z1,o1,.sl e⟩:=by rfl) (he:fty (Tbv.ts P) e=some ⟨t2,b2,z2,o2,.int .u8⟩:=by rfl) (hn:Nat.blt n N=true:=by rfl) (hn2:Nat.blt n2 N=true:=by rfl) :
  LG P ops Q (⟨some n,.buildSlice t m l9.toArray,ty,ps,af,none⟩ :: ⟨some n2,.convert t t (.tmp n),ty2,ps2,af2,none⟩ :: rest) N L c M R :=
 ⟨fun κ A w F S=>by
  refine hz_w F hn (wtd_ok F (ops:=ops) (gd:=none) rfl) (v:=.slice (some ⟨w.heap.size,0,none⟩) m m) (w':=w.alloc (.cells (B8 l).toArray e)) ?_ fun A1 F1=>?_
  ·have e9:=F.ps hx
   simp only[execOp,List.map_toArray];rw[e9];exact gx_val (hB w)
  refine hz_w F1 hn2 (wtd_ok F1 (ops:=ops) (gd:=none) rfl) (ex_conv rfl (F1.v (L:=(n,_) :: L) (by simp[lko,vlk])) (Lib.run_convert_bytes_const (P:=P) w t e (B8 l).toArray m m (ty_sl hs) (ty_int he))) fun A2 F2=>?_
  have hk:Kept No w (w.alloc (.cells (B8 l).toArray e ((B8 l).toArray.size,(B8 l).toArray.size+1))):=(Kept.refl No w).alloc _;obtain ⟨l1,l2⟩:=(S.no hk).learn (G:=fun g=>w.heap.size≤g) (fun g hg ho=>by have:=S.lt ho;omega) (fun g hg=>.inr (Nat.le_trans S.k1.size hg)) (fun g hg=>.inl (Nat.le_trans S.le.size hg));refine (k _ w.heap.size l1 (.inr ⟨w.heap.size,0,rfl,?_,fun j u hj=>?_⟩)).h κ A2 _ F2 l2
  ·rw[learn_size];simp[World.alloc,-World.alloc_eq]
  ·have h9:=World.cell?_of_block (a:=⟨w.heap.size,0+j,none⟩) (learn_yes (c:=c) (w:=w.alloc (.cells (B8 l).toArray e ((B8 l).toArray.size,(B8 l).toArray.size+1))) (G:=fun g=>w.heap.size≤g) (.inr (Nat.le_refl _)))
   rw[h9]
   have h1:(w.alloc (.cells (B8 l).toArray e ((B8 l).toArray.size,(B8 l).toArray.size+1))).heap[w.heap.size]?=some (.cells (B8 l).toArray e ((B8 l).toArray.size,(B8 l).toArray.size+1)):=by
    show (w.heap.push _)[w.heap.size]?=_;simp
   unfold World.cell?;rw[h1];simpa using hj⟩
end
def Nw (c:World) (a:Option Addr) (xs:List Value):Prop:=xs≠[]→∀ b off,a=some ⟨b,off,none⟩→Off c b
theorem Nw.nil (c:World) (a:Option Addr):Nw c a []:=fun h=>absurd rfl h
theorem Nw.le {c c':World} {a:Option Addr} {xs:List Value} (h:Nw c' a xs) (k:Le c c'):Nw c a xs:=fun h0 b off e=>(h h0 b off e).le k
theorem Row.nw {c c2 c3:World} {a:Option Addr} {xs:List Value} (h:Row c2 a xs) (k:Nw c a xs) (hb:∀ b,Off c b→c3.heap[b]?=c2.heap[b]?) (hz:c3.heap.size=c2.heap.size):Row c3 a xs:=by
 rcases h with h|⟨b,off,h1,h2,h3⟩
 ·exact .inl h
 ·by_cases h0:xs=[]
  ·exact .inl h0
  ·refine .inr ⟨b,off,h1,by omega,fun j u hj=>?_⟩
   rw[World.cell?_of_block (hb b (k h0 b off h1))];exact h3 j u hj
section
variable {P:Program} {ops:Array Oper} {Q:Kn} {rest:List Oper} {N n:Nat} {L:List (Nat × Value)} {c:World} {M:List Bl} {R:List Rwv} {v:Value} {ty:TypeId} {ps:String} {af:Array Edge} {gd:Option (Nat × Bool)} {e k i m cp:Nat} {a:Option Addr} {xs:List Value} {ex:Exit} {xc:Code} {x:Operand}
theorem vqgT {fuel t i:Nat} {listed:List Bool} {cH:World} {H:List Bl} {b:Bool} (k:HG P ops Q cH H fuel listed N ((t,.bool true) :: L) c M R) (hx:nxl ops listed=some i:=by rfl) (ht:gslh ops i=some t:=by rfl) (h0:vlk L t=some v:=by rfl) (h1:v=.bool b:=by (fail_if_success with_reducible exact vtt);with_reducible rfl) (hp:b=true:=by first|assumption|(with_reducible refine decide_eq_true ?_;first|assumption|omega)|(with_reducible refine bnT ?_;first|assumption|omega)):HG P ops Q cH H fuel listed N L c M R :=
 ⟨fun hc hH κ a w F S=>k.h hc hH κ a w (F.sh h0 (by rw[h1,hp])) S⟩
theorem vqgF {fuel t i:Nat} {listed:List Bool} {cH:World} {H:List Bl} {b:Bool} (k:HG P ops Q cH H fuel listed N ((t,.bool false) :: L) c M R) (hx:nxl ops listed=some i:=by rfl) (ht:gslh ops i=some t:=by rfl) (h0:vlk L t=some v:=by rfl) (h1:v=.bool b:=by (fail_if_success with_reducible exact vff);with_reducible rfl) (hp:b=false:=by first|assumption|(with_reducible refine decide_eq_false ?_;first|assumption|omega)|(with_reducible refine bnF ?_;first|assumption|omega)):HG P ops Q cH H fuel listed N L c M R :=
 ⟨fun hc hH κ a w F S=>k.h hc hH κ a w (F.sh h0 (by rw[h1,hp])) S⟩
end
end Go.Proofs.YtofjhopecfmbcaaGreatDoor
