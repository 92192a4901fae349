import Derived.Test.YtofjhopecfmbcaaGreatDoorYH1
import Derived.Maps.AppendAt
import Derived.Deep.RegionHeld
namespace Go.Proofs.YtofjhopecfmbcaaGreatDoor
open Go.RowKit
set_option linter.unusedVariables false
set_option linter.unusedSimpArgs false
structure Jn {α:Type} (N:Nat) (Lf:α→List (Nat × Value)) (cf:α→World) (Mf:α→List Bl) (Rf:α→List Rwv) (φ:α→Prop) (μ:α→Nat) (n:Nat) (κ:Cx) (a:Act) (w:World):Prop where
 h:∃ y,μ y < n∧φ y∧Vfr a N (Lf y)∧St κ (cf y) (Mf y) (Rf y) w
def KJ (J:Cx→Act→World→Prop) (Q:Kn):Kn:=fun κ=>Exit.then (J κ) (Q κ)
def SubL (L:List (Nat × Value)):List (Nat × Value)→Prop
 | []=>True
 | (i,v) :: r=>vlk L i=some v∧SubL L r
theorem SubL.fr {a:Act} {N:Nat} {L:List (Nat × Value)} (F:Vfr a N L):∀ {L':List (Nat × Value)},SubL L L'→Vfr a N L'
 | [],_=>F.nil
 | (i,v) :: r,h=>(SubL.fr F h.2).cons (F.g i v h.1)
section
variable {P:Program} {ops:Array Oper} {Q:Kn} {rest:List Oper} {N n:Nat} {L:List (Nat × Value)} {c:World} {M:List Bl} {R:List Rwv} {v:Value} {ty:TypeId} {ps:String} {af:Array Edge} {op:Op} {gd:Option (Nat × Bool)} {x y:Code} {e:Exit} {J:Cx→Act→World→Prop}
theorem vj {α:Type} {Lf:α→List (Nat × Value)} {cf:α→World} {Mf:α→List Bl} {Rf:α→List Rwv} {φ:α→Prop} {μ:α→Nat} {m:Nat} (y:α) (hφ:φ y) (hμ:μ y < m:=by omega) (hL:SubL L (Lf y):=by repeat' (first|exact trivial|refine ⟨rfl,?_⟩)) (hc:c=cf y:=by rfl) (hM:M=Mf y:=by rfl) (hR:R=Rf y:=by rfl):EG P (KJ (Jn N Lf cf Mf Rf φ μ m) Q) .normal N L c M R:=by
 subst hc hM hR;exact ⟨fun κ a w F S=>⟨y,hμ,hφ,hL.fr F,S⟩⟩
theorem vjr (k:EG P Q .ret N L c M R):EG P (KJ J Q) .ret N L c M R:=⟨fun κ a w F S=>k.h κ a w F S⟩
theorem vjx {i:Nat} (k:EG P Q (.exit i) N L c M R):EG P (KJ J Q) (.exit i) N L c M R:=⟨fun κ a w F S=>k.h κ a w F S⟩
theorem vlo {α:Type} (Lf:α→List (Nat × Value)) (cf:α→World) (Mf:α→List Bl) (Rf:α→List Rwv) (φ:α→Prop) (μ:α→Nat) (x0:α) (h0:φ x0) (k:∀ x,φ x→CG P (KJ (Jn N Lf cf Mf Rf φ μ (μ x)) Q) y N (Lf x) (cf x) (Mf x) (Rf x))
  (hL:SubL L (Lf x0):=by repeat' (first|exact trivial|refine ⟨rfl,?_⟩)) (hc:c=cf x0:=by rfl) (hM:M=Mf x0:=by rfl) (hR:R=Rf x0:=by rfl):CG P Q (.loop y) N L c M R:=by
 subst hc hM hR;refine ⟨fun κ a w F S=>wp_loop_ghost (fun n a w=>∃ x,μ x=n∧φ x∧Vfr a N (Lf x)∧St κ (cf x) (Mf x) (Rf x) w) (μ x0) ⟨x0,rfl,h0,hL.fr F,S⟩ ?_⟩;rintro n a w ⟨x,rfl,hx,F,S⟩;refine wp_mono ((k x hx).h κ a w F S) fun e a w h=>?_
 cases e with
 | normal =>
  obtain ⟨y,h1,h2,h3,h4⟩:=h.h;exact ⟨μ y,h1,y,rfl,h2,h3,h4⟩
 | exit id=>exact h
 | goto l=>exact h
 | ret=>exact h
 | panic ch=>exact h
 | outgrown=>exact h
theorem St.drop {κ:Cx} {m0:Bl} {M1:List Bl} {w:World} (S:St κ c (m0 :: M1) R w):St κ c M1 R w :=
 ⟨S.k,S.k1,S.lc,S.oc,fun g hg=>S.own g (hg.imp (fun ⟨y,hy,e⟩=>⟨y,by simp[hy],e⟩) id),S.le,fun y hy=>S.m y (by simp[hy]),(List.pairwise_cons.1 S.md).2,S.r,S.rd,fun y hy=>S.mr y (by simp[hy])⟩
structure Tr {α:Type} (P:Program) (f:Nat) (args:List Value) (c:World) (M:List Bl) (R:List Rwv) (vf:α→Value) (cf:α→World) (Mf:α→List Bl) (Rf:α→List Rwv) (φ:α→Prop):Prop where
 e:∀ args w,(callFunc f args).run P w=.ok (.enter f args) w
 h:∀ κ w,St κ c M R w→Calls P f args.toArray w fun e w'=>∃ x,e=.returned (vf x)∧φ x∧St ⟨κ.w0,w,Own M R,c⟩ (cf x) (Mf x) (Rf x) w'
structure Tv {α:Type} (vf:α→Value) (cf:α→World) (Mf:α→List Bl) (Rf:α→List Rwv) (φ:α→Prop) (κ:Cx) (e:Ending) (w:World):Prop where
 h:∃ x,e=.returned (vf x)∧φ x∧St κ (cf x) (Mf x) (Rf x) w
theorem Tr.in {α : Type} {vf : α → Value} {cf : α → World} {Mf : α → List Bl} {Rf : α → List Rwv} {φ : α → Prop} {f : Nat} {fn : Func} {args : List Value} (hf : P.funcs[f]? = some fn) (k : CG P (KR P fn (Tv vf cf Mf Rf φ)) x N (vnum 0 args) c M R) (hb : fn.body = some x := by rfl) (hN : fn.ntmps = N := by rfl) (hz : Nat.ble args.length N = true := by rfl) (hg : (fn.name == "runtime.NumGoroutine") = false := by kernel_rfl) : Tr P f args c M R vf cf Mf Rf φ :=
 ⟨fun args w=>gx_fn hf hg (by rw[hb];rfl) args w,fun κ w S=>(vin_ (RR:=Tv vf cf Mf Rf φ ⟨κ.w0,w,Own M R,c⟩) hf hb hN (Nat.le_of_ble_eq_true hz) fun a F=>k.h _ a w F S.sub).mono fun e w' h=>h.h⟩
theorem vta {α:Type} {vf:α→Value} {cf:α→World} {M1 M2:List Bl} {R1 R2:List Rwv} {Mf:α→List Bl} {Rf:α→List Rwv} {φ:α→Prop} {f:Nat} {l:List Operand} {vs:List Value} {ats:Array TypeId} (hc:Tr P f vs c M1 R1 vf cf Mf Rf φ) (k:∀ x,φ x→LG P ops Q rest N ((n,vf x) :: L) (cf x) (Mf x++M2) (Rf x++R2)) (hx:lkos L l=some vs:=by rfl) (hw:wtd ops L gd=some true:=by rfl) (hn:Nat.blt n N=true:=by rfl) :
  LG P ops Q (⟨some n,.call { callee:=.value (.func f),args:=l.toArray,argTypes:=ats },ty,ps,af,gd⟩ :: rest) N L c (M1++M2) (R1++R2) :=
 ⟨fun κ a w F S=>by
  have S1:St κ c M1 R1 w:=by
   refine ⟨S.k,S.k1,S.lc,S.oc,fun g hg=>S.own g (hg.imp (fun ⟨y,hy,e⟩=>⟨y,by simp[hy],e⟩) (fun ⟨y,hy,e⟩=>⟨y,by simp[hy],e⟩)),S.le,fun y hy=>S.m y (by simp[hy]),(List.pairwise_append.1 S.md).1,fun y hy=>S.r y (by simp[hy]),(List.pairwise_append.1 S.rd).1,fun y hy x hx=>S.mr y (by simp[hy]) x (by simp[hx])⟩
  exact vkc_ (wtd_ok F hw) (ex_call rfl rfl (F.vs hx) hc.e) (hc.h κ w S1) fun e w' ⟨x,h1,h2,S'⟩=>⟨vf x,h1,(k x h2).h κ _ w' (F.put hn (vf x)) (S.frame S')⟩⟩
theorem vrt [Tbv P] {α:Type} {vf:α→Value} {cf:α→World} {Mf:α→List Bl} {Rf:α→List Rwv} {φ:α→Prop} {fn:Func} {r:ResultVar} (x:α) (hφ:φ x) (hv:v=vf x:=by rfl) (hc:c=cf x:=by rfl) (hM:M=Mf x:=by rfl) (hR:R=Rf x:=by rfl) (hr:fn.results=#[r]:=by rfl) (h:RvOk P L M [r] [v]:=by first|exact rvt rfl rv0|exact rvc rfl (by repeat constructor) rfl rfl rv0|exact rvs rfl (by repeat constructor) rfl rfl rv0):EG P (KR P fn (Tv vf cf Mf Rf φ)) .ret N L c M R:=by
 subst hc hM hR hv;exact vr (fun κ w S=>⟨x,rfl,hφ,S⟩) hr h
theorem vrt0 {α:Type} {vf:α→Value} {cf:α→World} {Mf:α→List Bl} {Rf:α→List Rwv} {φ:α→Prop} {fn:Func} (x:α) (hφ:φ x) (hv:Value.tuple #[]=vf x:=by rfl) (hc:c=cf x:=by rfl) (hM:M=Mf x:=by rfl) (hR:R=Rf x:=by rfl) (hr:fn.results=#[]:=by rfl):EG P (KR P fn (Tv vf cf Mf Rf φ)) .ret N L c M R:=by
 subst hc hM hR;exact vr0 (fun κ w S=>⟨x,by rw[hv],hφ,S⟩) hr
theorem vrt2 [Tbv P] {α:Type} {vf:α→Value} {cf:α→World} {Mf:α→List Bl} {Rf:α→List Rwv} {φ:α→Prop} {fn:Func} {r1 r2:ResultVar} {x1 x2:Value} (x:α) (hφ:φ x) (hv:Value.tuple #[x1,x2]=vf x:=by rfl) (hc:c=cf x:=by rfl) (hM:M=Mf x:=by rfl) (hR:R=Rf x:=by rfl) (hr:fn.results=#[r1,r2]:=by rfl) (h:RvOk P L M [r1,r2] [x1,x2]:=by repeat' (first|exact rv0|refine rvt rfl ?_|refine rvc rfl (by repeat constructor) rfl rfl ?_|refine rvs rfl (by repeat constructor) rfl rfl ?_)):EG P (KR P fn (Tv vf cf Mf Rf φ)) .ret N L c M R:=by
 subst hc hM hR;exact vr2 (fun κ w S=>⟨x,by rw[hv],hφ,S⟩) hr h
theorem St.nilrow {κ:Cx} {w:World} (S:St κ c M R w) (e k:Nat):St κ c M (⟨e,k,.slice none 0 0,0,[]⟩ :: R) w:=by
 refine ⟨S.k,S.k1,S.lc,S.oc,fun g hg=>S.own g ?_,S.le,S.m,S.md,fun x hx=>?_,.cons (fun y hy g h=>by simp[Value.ownBlock]at h) S.rd,fun y hy x hx=>?_⟩
 ·rcases hg with hg|⟨x,hx,h⟩
  ·exact .inl hg
  ·rcases List.mem_cons.1 hx with rfl|hx
   ·simp[Value.ownBlock]at h
   ·exact .inr ⟨x,hx,h⟩
 ·rcases List.mem_cons.1 hx with rfl|hx
  ·exact ⟨by simp,.inl ⟨rfl,rfl⟩⟩
  ·exact S.r x hx
 ·rcases List.mem_cons.1 hx with rfl|hx
  ·simp[Value.ownBlock]
  ·exact S.mr y hy x hx
theorem vno_ (e k:Nat) (h:CG P Q x N L c M (⟨e,k,.slice none 0 0,0,[]⟩ :: R)):CG P Q x N L c M R:=⟨fun κ a w F S=>h.h κ a w F (S.nilrow e k)⟩
theorem St.grow {κ:Cx} {w w':World} {e k n n':Nat} {v v':Value} {xs xs':List Value} (S:St κ c M (⟨e,k,v,n,xs⟩ :: R) w) (hg:w.grownBy w' v.ownBlock) (ho:w'.ownsRow κ.w0.heap.size e k v' n' xs') (hne:∀ g,v'.ownBlock=some g→v.ownBlock=some g∨w.heap.size≤g):St κ c M (⟨e,k,v',n',xs'⟩ :: R) w':=by
 have hk:Kept (fun g=>v.ownBlock=some g) w w':=⟨hg.os,hg.tape,hg.output,hg.size,fun i hi hn=>hg.block i hi (fun h=>hn h.symm)⟩
 obtain ⟨h1,h2,h3⟩:=S.then_ hk fun g _ h=>.inr ⟨_,List.mem_cons_self ..,h⟩
 have rd:=List.pairwise_cons.1 S.rd;refine ⟨h1,h2,S.lc,S.oc,fun g hg=>?_,h3,fun y hy=>(S.m y hy).kept hk (S.mr y hy _ (List.mem_cons_self ..)),S.md,fun x hx=>?_,.cons (fun x hx g h f=>?_) rd.2,fun y hy x hx h=>?_⟩
 ·rcases hg with hg|⟨x,hx,h⟩
  ·exact S.own g (.inl hg)
  ·rcases List.mem_cons.1 hx with rfl|hx
   ·rcases hne g h with q|q
    ·exact S.own g (.inr ⟨_,List.mem_cons_self ..,q⟩)
    ·exact ⟨Nat.le_trans S.k.size q,.inr (Nat.le_trans S.k1.size q),.inl (Nat.le_trans S.le.size q)⟩
   ·exact S.own g (.inr ⟨x,List.mem_cons_of_mem _ hx,h⟩)
 ·rcases List.mem_cons.1 hx with rfl|hx
  ·exact ho
  ·exact own_sp (S.r x (List.mem_cons_of_mem _ hx)) hk (fun g h f=>rd.1 x hx g f h)
 ·rcases hne g h with q|q
  ·exact rd.1 x hx g q f
  ·have:=(own_bt (S.r x (List.mem_cons_of_mem _ hx)) f).2;omega
 ·rcases List.mem_cons.1 hx with rfl|hx
  ·rcases hne _ h with q|q
   ·exact S.mr y hy _ (List.mem_cons_self ..) q
   ·have:=(S.m y hy).lt;omega
  ·exact S.mr y hy x (List.mem_cons_of_mem _ hx) h
end
open Classical in
noncomputable def learn (c w:World) (G:Nat→Prop):World:={ w with heap:=w.heap.mapIdx fun i o=>if ¬ Off c i∨G i then o else .cells #[] 0 (0,0) }
section
variable {c c' w w':World} {κ:Cx} {M:List Bl} {R:List Rwv} {G:Nat→Prop}
theorem learn_size:(learn c w G).heap.size=w.heap.size:=by simp[learn]
theorem learn_yes {i:Nat} (h:¬ Off c i∨G i):(learn c w G).heap[i]?=w.heap[i]?:=by
 unfold learn;simp only[Array.getElem?_mapIdx,if_pos h];cases w.heap[i]?<;>rfl
theorem learn_off {i:Nat} (h:Off c i) (hg:¬ G i):Off (learn c w G) i:=by
 rcases Nat.lt_or_ge i w.heap.size with hi|hi
 ·refine .inr ?_
  unfold Hole learn;have h9:¬ (¬ Off c i∨G i):=fun h9=>h9.elim (fun q=>q h) hg
  simp only[Array.getElem?_mapIdx,if_neg h9,Array.getElem?_eq_getElem hi]
  rfl
 ·exact .inl (by rw[learn_size];exact hi)
theorem Le.learn (h:Le c w) (hG:∀ i,i < c.heap.size→G i→Off c i):Le c (learn c w G):=by
 refine ⟨h.os,h.tape,h.output,by rw[learn_size];exact h.size,fun k hk hn=>?_⟩;have ho:¬ Off c k:=fun h=>by rcases h with h|h;omega;exact hn h
 rw[learn_yes (.inl ho)];exact h.block k hk hn
theorem learn_le (c w:World) (G:Nat→Prop):Le (Go.Proofs.YtofjhopecfmbcaaGreatDoor.learn c w G) w:=by
 refine ⟨rfl,rfl,rfl,by rw[learn_size];exact Nat.le_refl _,fun k hk hn=>?_⟩
 by_cases h:¬ Off c k∨G k
 ·rw[learn_yes h]
 ·exfalso
  refine hn ?_;rcases learn_off (w:=w) (Classical.not_not.1 fun h9=>h (.inl h9)) (fun h9=>h (.inr h9)) with q|q
  ·omega
  ·exact q
theorem St.learn (S:St κ c M R w) (h1:∀ g,G g→¬ Own M R g) (h2:∀ g,G g→κ.T g∨κ.w1.heap.size≤g) (h3:∀ g,G g→Off c g):Le c (learn c w G)∧St κ (learn c w G) M R w:=by
 have hl:=S.le.learn (G:=G) (fun i _ h=>h3 i h);refine ⟨hl,S.k,S.k1,S.lc.trans hl,fun g a b d=>learn_off (S.oc g a b d) (fun h=>?_),fun g hg=>?_,learn_le c w G,S.m,S.md,S.r,S.rd,S.mr⟩
 ·rcases h2 g h with q|q
  ·exact b q
  ·omega
 ·obtain ⟨a,b,d⟩:=S.own g hg
  exact ⟨a,b,learn_off d (fun h=>h1 g h hg)⟩
theorem St.freeze {e k n m cp:Nat} {a:Option Addr} {xs:List Value} (S:St κ c M (⟨e,k,.slice a m cp,n,xs⟩ :: R) w):∃ c',Le c c'∧Row c' a xs∧(a=none→cp=0)∧m≤cp∧cp≤maxLen∧St κ c' M R w:=by
 have hr:=S.r _ (List.mem_cons_self ..);have S1:St κ c M R w:=⟨S.k,S.k1,S.lc,S.oc,fun g hg=>S.own g (hg.imp id (fun ⟨x,hx,e⟩=>⟨x,List.mem_cons_of_mem _ hx,e⟩)),S.le,S.m,S.md,fun x hx=>S.r x (List.mem_cons_of_mem _ hx),(List.pairwise_cons.1 S.rd).2,fun y hy x hx=>S.mr y hy x (List.mem_cons_of_mem _ hx)⟩
 rcases hr.2 with ⟨h1,h2⟩|⟨g,cap,cur,h1,h2,h3,h4,h5,h6,h7⟩
 ·simp at h1 h2
  obtain ⟨rfl,rfl,rfl⟩:=h1;refine ⟨c,Le.refl c,.inl ?_,fun _=>rfl,Nat.le_refl _,by simp[maxLen],S1⟩
  have:=hr.1
  simp[h2]at this;exact this
 ·simp at h1
  obtain ⟨rfl,rfl,rfl⟩:=h1;have hg:Own M (⟨e,k,.slice (some ⟨g,0,none⟩) m cp,m,xs⟩ :: R) g:=.inr ⟨_,List.mem_cons_self ..,rfl⟩;obtain ⟨o1,o2,o3⟩:=S.own g hg
  have hn:¬ Own M R g:=by
   rintro (⟨y,hy,rfl⟩|⟨x,hx,f⟩)
   ·exact S.mr y hy _ (List.mem_cons_self ..) rfl
   ·exact (List.pairwise_cons.1 S.rd).1 x hx g rfl f
  obtain ⟨l1,l2⟩:=S1.learn (G:=fun i=>i=g) (fun i e=>by subst e;exact hn) (fun i e=>by subst e;exact o2) (fun i e=>by subst e;exact o3);refine ⟨_,l1,?_,(by intro h;cases h),h4,h5,l2⟩;have hlt:=(Array.getElem?_eq_some_iff.1 h3).1;refine .inr ⟨g,0,rfl,by rw[learn_size];exact hlt,fun j u hj=>?_⟩;have hc:=hr.cells (g:=g) rfl j u hj;rw[Addr.add_lit]at hc;rw[← hc];exact World.cell?_of_block (learn_yes (.inr rfl))
end
section
variable {P:Program} {t1 z1:Nat} {b1:Bool} {o1:List Nat} {k1:TK} {ops:Array Oper} {Q:Kn} {rest:List Oper} {N n:Nat} {L:List (Nat × Value)} {c:World} {M:List Bl} {R:List Rwv} {v:Value} {ty:TypeId} {ps:String} {af:Array Edge} {op:Op} {gd:Option (Nat × Bool)} {x y:Operand} {e:Exit} {xc:Code}
theorem vefz {t k i m cp:Nat} {a:Option Addr} {xs:List Value} (h:∀ c',Le c c'→Row c' a xs→(a=none→cp=0)→m≤cp→cp≤maxLen→EG P Q e N L c' M R):EG P Q e N L c M (⟨t,k,.slice a m cp,i,xs⟩ :: R) :=
 ⟨fun κ A w F S=>by obtain ⟨c',h1,h2,h3,h4,h5,h6⟩:=S.freeze;exact (h c' h1 h2 h3 h4 h5).h κ A w F h6⟩
def infoOk (P:Program) (e k:Nat):Bool:=match P.info? e with
 | some i=>match i.zero with
  | some z=>i.size == k&&z.cells.size == k&&Nat.ble i.bytes 1024&&Nat.blt 0 k
  | none=>false
 | none=>false
theorem infoOk_ok {e k:Nat} (h:infoOk P e k=true):∃ i z,P.info? e=some i∧i.zero=some z∧i.size=k∧z.cells.size=k∧i.bytes≤1024∧0 < k:=by
 unfold infoOk at h
 split at h
 ·rename_i i hi
  split at h
  ·rename_i z hz
   simp only[Bool.and_eq_true,beq_iff_eq,Nat.ble_eq,Nat.blt_eq]at h;exact ⟨i,z,hi,hz,h.1.1.1,h.1.1.2,h.1.2,h.2⟩
  ·cases h
 ·cases h
end
def Hs (cH:World) (H:List Bl):World→Prop:=fun w=>Le cH w∧∀ y∈H,Blk w y.b y.t y.c.toArray
structure HG (P:Program) (ops:Array Oper) (Q:Kn) (cH:World) (H:List Bl) (fuel:Nat) (listed:List Bool) (N:Nat) (L:List (Nat × Value)) (c:World) (M:List Bl) (R:List Rwv):Prop where
 h:Le cH c→(∀ y∈H,y∈M)→∀ κ a w,Vfr a N L→St κ c M R w→wpAnyH P .any ops (Q κ) (Hs cH H) fuel listed.toArray a w
section
variable {P:Program} {t1 z1:Nat} {b1:Bool} {o1:List Nat} {k1:TK} {ops:Array Oper} {Q:Kn} {N n i fuel:Nat} {listed listed':List Bool} {L:List (Nat × Value)} {cH c:World} {H M:List Bl} {R:List Rwv} {v:Value} {ty:TypeId} {ps:String} {af:Array Edge} {op:Op} {gd:Option (Nat × Bool)} {x y:Operand}
theorem St.hs {κ:Cx} {w:World} (S:St κ c M R w) (hc:Le cH c) (hH:∀ y∈H,y∈M):Hs cH H w:=⟨hc.trans S.le,fun y hy=>S.m y (hH y hy)⟩
def nthB:List Bl→Nat→Option Bl
 | [],_=>none
 | v :: _,0=>some v
 | _ :: l,i+1=>nthB l i
theorem nthB_in:∀ {l:List Bl} {i:Nat} {y:Bl},nthB l i=some y→y∈l
 | [],_,_,h=>by simp[nthB]at h
 | _ :: _,0,_,h=>by simp[nthB]at h;subst h;simp
 | _ :: l,i+1,_,h=>List.mem_cons_of_mem _ (nthB_in (l:=l) (i:=i) h)
def pick (M:List Bl):List Nat→Option (List Bl)
 | []=>some []
 | i :: r=>match nthB M i with
  | some y=>match pick M r with
   | some l=>some (y :: l)
   | none=>none
  | none=>none
theorem pick_in {M:List Bl} {y:Bl}:∀ {l:List Nat} {H:List Bl},pick M l=some H→y∈H→y∈M
 | [],H,e,h=>by simp[pick]at e;subst e;simp at h
 | i :: r,H,e,h=>by
  simp only[pick]at e
  split at e
  ·rename_i z hz
   split at e
   ·rename_i l hl
    simp at e;subst e;rcases List.mem_cons.1 h with rfl|h
    ·exact nthB_in hz
    ·exact pick_in hl h
   ·cases e
  ·cases e
def setB:List Bool→Nat→Option (List Bool)
 | [],_=>none
 | _ :: l,0=>some (true :: l)
 | b :: l,i+1=>match setB l i with
  | some r=>some (b :: r)
  | none=>none
theorem setB_ok:∀ {l r:List Bool} {i:Nat},setB l i=some r→l.set i true=r
 | [],_,_,h=>by simp[setB]at h
 | _ :: l,_,0,h=>by simp[setB]at h;subst h;rfl
 | b :: l,r,i+1,h=>by
  simp only[setB]at h
  split at h
  ·rename_i q hq
   simp at h;subst h;simp[setB_ok hq]
  ·cases h
theorem setB_arr {l r:List Bool} {i:Nat} (h:setB l i=some r):l.toArray.setIfInBounds i true=r.toArray:=by rw[← setB_ok h];simp
def repB:List Oper→Option (List Bool)
 | []=>some []
 | _ :: l=>match repB l with
  | some r=>some (false :: r)
  | none=>none
theorem repB_ok:∀ {l:List Oper} {r:List Bool},repB l=some r→r=List.replicate l.length false
 | [],_,h=>by simp[repB]at h;simp[h]
 | _ :: l,r,h=>by
  simp only[repB]at h
  split at h
  ·rename_i q hq
   simp at h;rw[← h,repB_ok hq]
   rfl
  ·cases h
theorem vh {i:Nat} {ops:List Oper} (is:List Nat) (k:HG P ops.toArray Q c H ops.length listed N L c M R) (hp:pick M is=some H:=by rfl) (hl:repB ops=some listed:=by rfl) (hm:P.follows .mixedOrders=true:=by kernel_rfl):CG P Q (.region i ops.toArray true) N L c M R :=
 ⟨fun κ a w F S=>wp_region_held_drew (S:=Hs c H) hm (S.drew.hs (Le.refl c) fun y hy=>pick_in hp hy) fun _=>by
  have h1:=k.h (Le.refl c) (fun y hy=>pick_in hp hy) κ a _ F S.drew;rw[repB_ok hl]at h1;simpa using h1⟩
def qOp (L:List (Nat × Value)):Op→Bool
 | .convert _ _ x=>match lko L x with
  | some (.string _)=>false
  | _=>true
 | .call c=>match c.callee with
  | .builtin .len=>true
  | _=>false
 | .alloc _|.box ..|.store ..|.buildSlice ..|.makeSlice ..|.makeFunc ..=>false
 | _=>true
def bget:List Bool→Nat→Bool
 | [],_=>false
 | b :: _,0=>b
 | _ :: l,i+1=>bget l i
def aftB (l:List Bool):List Edge→Bool
 | []=>true
 | e :: r=>match Region.binds .any e with
  | true=>match bget l e.on with
   | true=>aftB l r
   | false=>false
  | false=>aftB l r
def rdy (l:List Bool):Nat→List Bool→List Oper→List (Nat × Oper)
 | i,false :: m,o :: r=>match aftB l o.after.toList with
  | true=>(i,o) :: rdy l (i+1) m r
  | false=>rdy l (i+1) m r
 | i,true :: m,_ :: r=>rdy l (i+1) m r
 | _,_,_=>[]
def fstq (ops:Array Oper) (L:List (Nat × Value)):List (Nat × Oper)→Option Nat
 | []=>none
 | (i,o) :: r=>match qOp L o.op with
  | true=>some i
  | false=>match wtd ops L o.guard with
   | some false=>some i
   | _=>fstq ops L r
def nxq (ops:Array Oper) (listed:List Bool) (L:List (Nat × Value)):Option Nat:=fstq ops L (rdy listed 0 listed ops.toList)
def nxl (ops:Array Oper) (listed:List Bool):Option Nat:=match rdy listed 0 listed ops.toList with
 | (i,_) :: _=>some i
 | []=>none
def al1 (ops:Array Oper) (listed:List Bool):Option Nat:=match rdy listed 0 listed ops.toList with
 | [(i,_)]=>some i
 | _=>none
def frq (ops:Array Oper) (listed:List Bool) (i:Nat):Bool:=Region.noSelect ops&&(Region.free .any ops listed.toArray i&&(Region.ready .any ops listed.toArray).contains i)
theorem HG.take_ (k:HG P ops Q cH H fuel listed' N ((n,v) :: L) c M R) (h:∀ a w,Vfr a N L→Hs cH H w→(execOp a.eval ⟨some n,op,ty,ps,af,gd⟩).run P w=.ok (.value v) w) (hi:ops[i]?=some ⟨some n,op,ty,ps,af,gd⟩) (hs9:setB listed i=some listed') (hr:frq ops listed i=true)
  (hQ:∀ κ c a w,Q κ (.panic c) (a.put (some n) v) w→Q κ (.panic c) a w) (hw:wtd ops L gd=some true) (hn:Nat.blt n N=true):HG P ops Q cH H (fuel+1) listed N L c M R :=
 ⟨fun hc hH κ a w F S=>by
  unfold frq at hr;simp only[Bool.and_eq_true]at hr;exact wpAnyH_take hi hr.1 hr.2.1 hr.2.2 (hQ κ) (.inl ⟨wtd_ok F hw,fun w hs=>h a w F hs⟩) (S.hs hc hH) (by rw[setB_arr hs9];exact k.h hc hH κ _ w (F.put hn v) S)⟩
theorem vqz (k:HG P ops Q cH H fuel listed' N ((n,v) :: L) c M R) (hx:nxq ops listed L=some i:=by rfl) (hs9:setB listed i=some listed':=by rfl) (hi:ops[i]?=some ⟨some n,op,ty,ps,af,gd⟩:=by rfl) (h:stepV L op=some v:=by rfl) (hr:frq ops listed i=true:=by kernel_rfl)
  (hQ:∀ κ c a w,Q κ (.panic c) (a.put (some n) v) w→Q κ (.panic c) a w:=by exact fun _ _ _ _ h=>h) (hw:wtd ops L gd=some true:=by rfl) (hn:Nat.blt n N=true:=by rfl):HG P ops Q cH H (fuel+1) listed N L c M R :=
 k.take_ (fun a w F _=>stepV_ok F h) hi hs9 hr hQ hw hn
theorem vqno (k:HG P ops Q cH H fuel listed' N ((n,undef) :: L) c M R) (hx:nxq ops listed L=some i:=by rfl) (hs9:setB listed i=some listed':=by rfl) (hi:ops[i]?=some ⟨some n,op,ty,ps,af,gd⟩:=by rfl) (hr:frq ops listed i=true:=by kernel_rfl)
  (hQ:∀ κ c a w,Q κ (.panic c) (a.put (some n) undef) w→Q κ (.panic c) a w:=by exact fun _ _ _ _ h=>h) (hw:wtd ops L gd=some false:=by rfl) (hn:Nat.blt n N=true:=by rfl):HG P ops Q cH H (fuel+1) listed N L c M R :=
 ⟨fun hc hH κ a w F S=>by
  unfold frq at hr;simp only[Bool.and_eq_true]at hr;exact wpAnyH_take hi hr.1 hr.2.1 hr.2.2 (hQ κ) (.inr ⟨wtd_ok F hw,rfl⟩) (S.hs hc hH) (by rw[setB_arr hs9];exact k.h hc hH κ _ w (F.put hn undef) S)⟩
theorem vqf [Tbv P] {S K b o f:Nat} (k:HG P ops Q cH H fuel listed' N ((n,.pointer (some ⟨b,o+f,none⟩)) :: L) c M R) (hx:nxq ops listed L=some i:=by rfl) (hs9:setB listed i=some listed':=by rfl) (hi:ops[i]?=some ⟨some n,.fieldAddr S x K,ty,ps,af,gd⟩:=by rfl) (hv:lko L x=some (.pointer (some ⟨b,o,none⟩)):=by rfl) (hT:fty (Tbv.ts P) S=some ⟨t1,true,z1,o1,k1⟩:=by rfl) (hk:nthn o1 K=some f:=by rfl) (hr:frq ops listed i=true:=by kernel_rfl)
  (hQ:∀ κ c a w,Q κ (.panic c) (a.put (some n) (.pointer (some ⟨b,o+f,none⟩))) w→Q κ (.panic c) a w:=by exact fun _ _ _ _ h=>h) (hw:wtd ops L gd=some true:=by rfl) (hn:Nat.blt n N=true:=by rfl):HG P ops Q cH H (fuel+1) listed N L c M R :=
 k.take_ (fun a w F _=>ex_faddr rfl (F.v hv) (by rw[ty_field hT hk w,Addr.add_lit])) hi hs9 hr hQ hw hn
theorem vql [Tbv P] {T b t o:Nat} {l:List Value} (k:HG P ops Q cH H fuel listed' N ((n,v) :: L) c M R) (hx:nxq ops listed L=some i:=by rfl) (hs9:setB listed i=some listed':=by rfl) (hi:ops[i]?=some ⟨some n,.load T x,ty,ps,af,gd⟩:=by rfl) (hv:lko L x=some (.pointer (some ⟨b,o,none⟩)):=by rfl) (hm:⟨b,t,l⟩∈H:=by repeat constructor) (ho:nth l o=some v:=by rfl) (hT:fty (Tbv.ts P) T=some ⟨t1,false,z1,o1,k1⟩:=by rfl) (hr:frq ops listed i=true:=by kernel_rfl)
  (hQ:∀ κ c a w,Q κ (.panic c) (a.put (some n) v) w→Q κ (.panic c) a w:=by exact fun _ _ _ _ h=>h) (hw:wtd ops L gd=some true:=by rfl) (hn:Nat.blt n N=true:=by rfl):HG P ops Q cH H (fuel+1) listed N L c M R :=
 k.take_ (fun a w F hs=>ex_load rfl (F.v hv) (gl_one (ty_agg hT w) (by rw[(hs.2 _ hm).cell o];simpa [nth_eq] using ho))) hi hs9 hr hQ hw hn
theorem vqla [Tbv P] {T b t:Nat} {l:List Value} (k:HG P ops Q cH H fuel listed' N ((n,.agg l.toArray) :: L) c M R) (hx:nxq ops listed L=some i:=by rfl) (hs9:setB listed i=some listed':=by rfl) (hi:ops[i]?=some ⟨some n,.load T x,ty,ps,af,gd⟩:=by rfl) (hv:lko L x=some (.pointer (some ⟨b,0,none⟩)):=by rfl) (hm:⟨b,t,l⟩∈H:=by repeat constructor) (hT:fty (Tbv.ts P) T=some ⟨t1,true,z1,o1,k1⟩:=by rfl) (hz:l.length=z1:=by rfl) (hr:frq ops listed i=true:=by kernel_rfl)
  (hQ:∀ κ c a w,Q κ (.panic c) (a.put (some n) (.agg l.toArray)) w→Q κ (.panic c) a w:=by exact fun _ _ _ _ h=>h) (hw:wtd ops L gd=some true:=by rfl) (hn:Nat.blt n N=true:=by rfl):HG P ops Q cH H (fuel+1) listed N L c M R :=
 k.take_ (fun a w F hs=>ex_load rfl (F.v hv) (gl_agg l.toArray (by simpa using hz) (ty_agg hT w) (ty_size hT w) (fun i=>(hs.2 _ hm).cell i))) hi hs9 hr hQ hw hn
theorem vqln [Tbv P] {t m cp:Nat} {s:Option Addr} (k:HG P ops Q cH H fuel listed' N ((n,.int .i64 m) :: L) c M R) (hx:nxq ops listed L=some i:=by rfl) (hs9:setB listed i=some listed':=by rfl) (hi:ops[i]?=some ⟨some n,.call { callee:=.builtin .len,args:=#[x],argTypes:=#[t] },ty,ps,af,gd⟩:=by rfl) (hv:lko L x=some (.slice s m cp):=by rfl) {x1:Nat} (hu:fty (Tbv.ts P) t=some ⟨t1,false,z1,o1,.sl x1⟩:=by rfl) (hr:frq ops listed i=true:=by kernel_rfl)
  (hQ:∀ κ c a w,Q κ (.panic c) (a.put (some n) (.int .i64 m)) w→Q κ (.panic c) a w:=by exact fun _ _ _ _ h=>h) (hw:wtd ops L gd=some true:=by rfl) (hn:Nat.blt n N=true:=by rfl):HG P ops Q cH H (fuel+1) listed N L c M R :=
 k.take_ (fun a w F _=>ex_len rfl (l:=[x]) (gx_l1 (F.v hv) gx_l0) (rn_lens (ty_sl hu))) hi hs9 hr hQ hw hn
theorem vqls [Tbv P] {t:Nat} {s:ByteArray} (k:HG P ops Q cH H fuel listed' N ((n,.int .i64 s.size) :: L) c M R) (hx:nxq ops listed L=some i:=by rfl) (hs9:setB listed i=some listed':=by rfl) (hi:ops[i]?=some ⟨some n,.call { callee:=.builtin .len,args:=#[x],argTypes:=#[t] },ty,ps,af,gd⟩:=by rfl) (hv:lko L x=some (.string s):=by rfl) (hu:fty (Tbv.ts P) t=some ⟨t1,false,z1,o1,.str⟩:=by rfl) (hr:frq ops listed i=true:=by kernel_rfl)
  (hQ:∀ κ c a w,Q κ (.panic c) (a.put (some n) (.int .i64 s.size)) w→Q κ (.panic c) a w:=by exact fun _ _ _ _ h=>h) (hw:wtd ops L gd=some true:=by rfl) (hn:Nat.blt n N=true:=by rfl):HG P ops Q cH H (fuel+1) listed N L c M R :=
 k.take_ (fun a w F _=>ex_len rfl (l:=[x]) (gx_l1 (F.v hv) gx_l0) (rn_lenstr (ty_str hu))) hi hs9 hr hQ hw hn
theorem vqad {t u:TypeId} {p q:Int} (k:HG P ops Q cH H fuel listed' N ((n,.int .i64 (p+q)) :: L) c M R) (hx:nxq ops listed L=some i:=by rfl) (hs9:setB listed i=some listed':=by rfl) (hi:ops[i]?=some ⟨some n,.binOp .add t x y u,ty,ps,af,gd⟩:=by rfl) (hv:lko L x=some (.int .i64 p):=by rfl) (hv2:lko L y=some (.int .i64 q):=by rfl) (h1:-9223372036854775808≤p+q:=by omega) (h2:p+q≤9223372036854775807:=by omega) (hr:frq ops listed i=true:=by kernel_rfl)
  (hQ:∀ κ c a w,Q κ (.panic c) (a.put (some n) (.int .i64 (p+q))) w→Q κ (.panic c) a w:=by exact fun _ _ _ _ h=>h) (hw:wtd ops L gd=some true:=by rfl) (hn:Nat.blt n N=true:=by rfl):HG P ops Q cH H (fuel+1) listed N L c M R :=
 k.take_ (fun a w F _=>ex_bin rfl (F.v hv) (F.v hv2) (rn_add (gx_wrap_i64 h1 h2))) hi hs9 hr hQ hw hn
theorem vqn (k:EG P Q .normal N L c M R) (hx:nxl ops listed=none:=by rfl) (hr:Region.ready .any ops listed.toArray=[]:=by kernel_rfl):HG P ops Q cH H fuel listed N L c M R:=⟨fun hc hH κ a w F S=>wpAnyH_done hr (k.h κ a w F S) _⟩
theorem HG.one_ (h:Le cH c→(∀ y∈H,y∈M)→∀ κ a w,Vfr a N L→St κ c M R w→wpOp P ops (Q κ) i (fun a' w'=>Hs cH H w'∧wpAnyH P .any ops (Q κ) (Hs cH H) fuel listed'.toArray a' w') a w) (hs9:setB listed i=some listed') (hr:Region.ready .any ops listed.toArray=[i]):HG P ops Q cH H (fuel+1) listed N L c M R :=
 ⟨fun hc hH κ a w F S=>by
  refine wpAnyH_all hr (by simp) fun j hj=>?_
  obtain rfl:=List.mem_singleton.1 hj;rw[setB_arr hs9];exact h hc hH κ a w F S⟩
theorem wpOp_val {a:Act} {w w':World} {QQ:Exit→Act→World→Prop} {K:Act→World→Prop} (F:Vfr a N L) (hi:ops[i]?=some ⟨some n,op,ty,ps,af,gd⟩) (hw:wtd ops L gd=some true) (hn:Nat.blt n N=true) (h:(execOp a.eval ⟨some n,op,ty,ps,af,gd⟩).run P w=.ok (.value v) w') (k:∀ a',Vfr a' N ((n,v) :: L)→K a' w'):wpOp P ops QQ i K a w:=by
 unfold wpOp;simp only[hi];rw[if_pos (wtd_ok F hw)];left;unfold Oper.wp;rw[h];exact k _ (F.put hn v)
theorem wpOp_call {a:Act} {w:World} {QQ:Exit→Act→World→Prop} {K:Act→World→Prop} {f:Nat} {args:Array Value} {RR:Ending→World→Prop} (F:Vfr a N L) (hi:ops[i]?=some ⟨some n,op,ty,ps,af,gd⟩) (hw:wtd ops L gd=some true) (h:(execOp a.eval ⟨some n,op,ty,ps,af,gd⟩).run P w=.ok (.enter f args) w) (hc:Calls P f args w RR) (k:∀ e w',RR e w'→∃ v,e=.returned v∧K (a.put (some n) v) w'):wpOp P ops QQ i K a w:=by
 unfold wpOp;simp only[hi];rw[if_pos (wtd_ok F hw)];left;unfold Oper.wp;rw[h];refine hc.mono ?_;intro e w' hR;obtain ⟨v,rfl,hk⟩:=k e w' hR;exact hk
theorem vqkc {f:Nat} {l:List Operand} {vs:List Value} {ats:Array TypeId} (hc:∀ κ w,St κ c M R w→Calls P f vs.toArray w fun e w'=>e=.returned v∧Kept No w w') (k:HG P ops Q cH H fuel listed' N ((n,v) :: L) c M R) (hx:al1 ops listed=some i:=by rfl) (hs9:setB listed i=some listed':=by rfl) (hi:ops[i]?=some ⟨some n,.call { callee:=.value (.func f),args:=l.toArray,argTypes:=ats },ty,ps,af,gd⟩:=by rfl) (hv:lkos L l=some vs:=by rfl) (he:∀ args w,(callFunc f args).run P w=.ok (.enter f args) w:=by intro _ _;kernel_rfl) (hr:Region.ready .any ops listed.toArray=[i]:=by kernel_rfl) (hw:wtd ops L gd=some true:=by rfl) (hn:Nat.blt n N=true:=by rfl):HG P ops Q cH H (fuel+1) listed N L c M R :=
 HG.one_ (fun hC hH κ a w F S=>wpOp_call F hi hw (ex_call rfl rfl (F.vs hv) he) (hc κ w S) fun e w' ⟨h1,h2⟩=>⟨v,h1,(S.no h2).hs hC hH,k.h hC hH κ _ w' (F.put hn v) (S.no h2)⟩) hs9 hr
theorem vqkk {f:Nat} {l:List Operand} {vs:List Value} {ats:Array TypeId} (hc:Ck P f vs c v) (k:HG P ops Q cH H fuel listed' N ((n,v) :: L) c M R) (hx:al1 ops listed=some i:=by rfl) (hs9:setB listed i=some listed':=by rfl) (hi:ops[i]?=some ⟨some n,.call { callee:=.value (.func f),args:=l.toArray,argTypes:=ats },ty,ps,af,gd⟩:=by rfl) (hv:lkos L l=some vs:=by rfl) (hr:Region.ready .any ops listed.toArray=[i]:=by kernel_rfl) (hw:wtd ops L gd=some true:=by rfl) (hn:Nat.blt n N=true:=by rfl):HG P ops Q cH H (fuel+1) listed N L c M R :=
 vqkc (fun κ w S=>hc.h w S.le) k hx hs9 hi hv hc.e hr hw hn
theorem vqA {t:TypeId} {l:List Value} {mk:Nat→Value} (k:∀ b,HG P ops Q cH H fuel listed' N ((n,mk b) :: L) c (⟨b,t,l⟩ :: M) R) (hx:al1 ops listed=some i:=by rfl) (hs9:setB listed i=some listed':=by rfl) (hi:ops[i]?=some ⟨some n,op,ty,ps,af,gd⟩:=by rfl) (h:AlOk P N L op mk t l:=by first|exact ao1 rfl|exact ao2 rfl rfl|exact ao3 rfl|exact ao4 rfl rfl|exact ao5 rfl rfl rfl (by intro _;kernel_rfl)) (hr:Region.ready .any ops listed.toArray=[i]:=by kernel_rfl) (hw:wtd ops L gd=some true:=by rfl) (hn:Nat.blt n N=true:=by rfl):HG P ops Q cH H (fuel+1) listed N L c M R :=
 HG.one_ (fun hC hH κ a w F S=>wpOp_val F hi hw hn (h a w _ F rfl) fun a' F'=>⟨(S.new t l).hs hC (fun y hy=>List.mem_cons_of_mem _ (hH y hy)),(k w.heap.size).h hC (fun y hy=>List.mem_cons_of_mem _ (hH y hy)) κ a' _ F' (S.new t l)⟩) hs9 hr
theorem wpOp_st {a:Act} {w w':World} {QQ:Exit→Act→World→Prop} {K:Act→World→Prop} (F:Vfr a N L) (hi:ops[i]?=some ⟨none,op,ty,ps,af,gd⟩) (hw:wtd ops L gd=some true) (h:(execOp a.eval ⟨none,op,ty,ps,af,gd⟩).run P w=.ok .skip w') (k:K a w'):wpOp P ops QQ i K a w:=by
 unfold wpOp;simp only[hi];rw[if_pos (wtd_ok F hw)];left;unfold Oper.wp;rw[h];exact k
theorem HG.st_ {A M1:List Bl} {b t T o:Nat} {l l':List Value} (k:HG P ops Q cH H fuel listed' N L c (A++⟨b,t,l'⟩ :: M1) R) (hx:al1 ops listed=some i) (hs9:setB listed i=some listed') (hi:ops[i]?=some ⟨none,.store T x y,ty,ps,af,gd⟩) (hv:lko L x=some (.pointer (some ⟨b,o,none⟩))) (hv2:lko L y=some v) (hs:∀ w,(Go.sizeOf T).run P w=.ok (cl v).length w) (h1:one1 (cl v)=true) (hl:setl o l (cl v)=some l') (hH2:∀ y∈H,y.b≠b∨y.b=b→y∈A++⟨b,t,l'⟩ :: M1) (hr:Region.ready .any ops listed.toArray=[i]) (hw:wtd ops L gd=some true):HG P ops Q cH H (fuel+1) listed N L c (A++⟨b,t,l⟩ :: M1) R :=
 HG.one_ (fun hC hH κ a w F S=>by
  obtain ⟨w',h2,h3,h4⟩:=sx_part (P:=P) (T:=T) (v:=v) (o:=o) w (S.m ⟨b,t,l⟩ (by simp)) (by rw[cl_eq];simpa using hs w) (by rw[cl_eq];simpa [one1_eq] using h1) (by rw[cl_eq];exact hl);have S':=S.setl h4 h3;have hin:∀ y∈H,y∈A++⟨b,t,l'⟩ :: M1:=fun y hy=>hH2 y hy (by by_cases e:y.b=b;exact .inr e;exact .inl e)
  exact wpOp_st F hi hw (ex_store rfl (F.v hv) (F.v hv2) h2) ⟨S'.hs hC hin,k.h hC hin κ a w' F S'⟩) hs9 hr
theorem vqt0 [Tbv P] {M1:List Bl} {b t T o:Nat} {l l':List Value} (k:HG P ops Q cH H fuel listed' N L c (⟨b,t,l'⟩ :: M1) R) (hx:al1 ops listed=some i:=by rfl) (hs9:setB listed i=some listed':=by rfl) (hi:ops[i]?=some ⟨none,.store T x y,ty,ps,af,gd⟩:=by rfl) (hv:lko L x=some (.pointer (some ⟨b,o,none⟩)):=by rfl) (hv2:lko L y=some v:=by rfl) (hT:fty (Tbv.ts P) T=some ⟨t1,b1,z1,o1,k1⟩:=by rfl) (hs:(cl v).length=z1:=by rfl) (h1:one1 (cl v)=true:=by rfl) (hl:setl o l (cl v)=some l':=by rfl) (hH2:∀ y∈H,y.b≠b∨y.b=b→y∈⟨b,t,l'⟩ :: M1:=by simp) (hr:Region.ready .any ops listed.toArray=[i]:=by kernel_rfl) (hw:wtd ops L gd=some true:=by rfl):HG P ops Q cH H (fuel+1) listed N L c (⟨b,t,l⟩ :: M1) R :=
 HG.st_ (A:=[]) k hx hs9 hi hv hv2 (fun w=>by rw[hs];exact ty_size hT w) h1 hl hH2 hr hw
theorem vqt1 [Tbv P] {m1:Bl} {M1:List Bl} {b t T o:Nat} {l l':List Value} (k:HG P ops Q cH H fuel listed' N L c (m1 :: ⟨b,t,l'⟩ :: M1) R) (hx:al1 ops listed=some i:=by rfl) (hs9:setB listed i=some listed':=by rfl) (hi:ops[i]?=some ⟨none,.store T x y,ty,ps,af,gd⟩:=by rfl) (hv:lko L x=some (.pointer (some ⟨b,o,none⟩)):=by rfl) (hv2:lko L y=some v:=by rfl) (hT:fty (Tbv.ts P) T=some ⟨t1,b1,z1,o1,k1⟩:=by rfl) (hs:(cl v).length=z1:=by rfl) (h1:one1 (cl v)=true:=by rfl) (hl:setl o l (cl v)=some l':=by rfl) (hH2:∀ y∈H,y.b≠b∨y.b=b→y∈m1 :: ⟨b,t,l'⟩ :: M1:=by simp) (hr:Region.ready .any ops listed.toArray=[i]:=by kernel_rfl) (hw:wtd ops L gd=some true:=by rfl):HG P ops Q cH H (fuel+1) listed N L c (m1 :: ⟨b,t,l⟩ :: M1) R :=
 HG.st_ (A:=[m1]) k hx hs9 hi hv hv2 (fun w=>by rw[hs];exact ty_size hT w) h1 hl hH2 hr hw
theorem vqt2 [Tbv P] {m1 m2:Bl} {M1:List Bl} {b t T o:Nat} {l l':List Value} (k:HG P ops Q cH H fuel listed' N L c (m1 :: m2 :: ⟨b,t,l'⟩ :: M1) R) (hx:al1 ops listed=some i:=by rfl) (hs9:setB listed i=some listed':=by rfl) (hi:ops[i]?=some ⟨none,.store T x y,ty,ps,af,gd⟩:=by rfl) (hv:lko L x=some (.pointer (some ⟨b,o,none⟩)):=by rfl) (hv2:lko L y=some v:=by rfl) (hT:fty (Tbv.ts P) T=some ⟨t1,b1,z1,o1,k1⟩:=by rfl) (hs:(cl v).length=z1:=by rfl) (h1:one1 (cl v)=true:=by rfl) (hl:setl o l (cl v)=some l':=by rfl) (hH2:∀ y∈H,y.b≠b∨y.b=b→y∈m1 :: m2 :: ⟨b,t,l'⟩ :: M1:=by simp) (hr:Region.ready .any ops listed.toArray=[i]:=by kernel_rfl) (hw:wtd ops L gd=some true:=by rfl):HG P ops Q cH H (fuel+1) listed N L c (m1 :: m2 :: ⟨b,t,l⟩ :: M1) R :=
 HG.st_ (A:=[m1,m2]) k hx hs9 hi hv hv2 (fun w=>by rw[hs];exact ty_size hT w) h1 hl hH2 hr hw
end
structure Rat (c:World) (a:Option Addr) (k j b o:Nat) (l:List Value):Prop where
 a:∃ off,a=some ⟨b,off,none⟩∧off+j * k=o
 h:∀ i v,nth l i=some v→c.cell? ⟨b,o+i,none⟩=some v
theorem Rat.le {c w:World} {a:Option Addr} {k j b o:Nat} {l:List Value} (h:Rat c a k j b o l) (e:Le c w):Rat w a k j b o l:=⟨h.a,fun i v hv=>e.cell (h.h i v hv)⟩
theorem Row.rat {c:World} {a:Option Addr} {xs:List Value} (h:Row c a xs) (k j:Nat) (l:List Value) (hl:∀ i v,nth l i=some v→xs[j * k+i]?=some v) (hx:j * k < xs.length):∃ b o,Rat c a k j b o l:=by
 rcases h with h|⟨b,off,rfl,hb,hc⟩
 ·rw[h]at hx;simp at hx
 ·refine ⟨b,_,⟨off,rfl,rfl⟩,fun i v hv=>?_⟩
  have:=hc _ _ (hl i v hv)
  rwa [← Nat.add_assoc]at this
section
variable {P:Program} {t1 z1:Nat} {o1:List Nat} {k1:TK} {ops:Array Oper} {Q:Kn} {rest:List Oper} {N n i fuel j m cp s e:Nat} {listed listed':List Bool} {L:List (Nat × Value)} {cH c:World} {H M:List Bl} {R:List Rwv} {v:Value} {ty:TypeId} {ps:String} {af:Array Edge} {gd:Option (Nat × Bool)} {x y:Operand} {a:Option Addr} {b o:Nat} {l:List Value} {ik:IntKind} {ii:Int}
theorem rn_ix [Tbv P] {t t2:Nat} {g2:Bool} {o2:List Nat} {k2:TK} {w:World} (hr:Rat c a s j b o l) (hj:ii=(j:Int)) (hm:j < m) (hT:fty (Tbv.ts P) t=some ⟨t1,false,z1,o1,.sl e⟩) (hE:fty (Tbv.ts P) e=some ⟨t2,g2,s,o2,k2⟩):(Instr.indexAt t (.slice a m cp) (.int ik ii)).run P w=.ok (.pointer (some ⟨b,o,none⟩)) w:=by
 subst hj;have h1:=ty_sl hT;have he:P.elem t=e:=by simp[Program.elem,h1]
 obtain ⟨off,rfl,rfl⟩:=hr.a;rw[run_indexAt_slice w t _ m cp ik j (by rw[he];exact h1),he,if_pos (by omega),ty_size hE w];simp[Result.andThen,Addr.add_lit]
theorem vix [Tbv P] {t t2:Nat} {g2:Bool} {o2:List Nat} {k2:TK} (k:LG P ops Q rest N ((n,.pointer (some ⟨b,o,none⟩)) :: L) c M R) (hx:lko L x=some (.slice a m cp):=by rfl) (hy:lko L y=some (.int ik ii):=by rfl) (hr:Rat c a s j b o l:=by assumption) (hj:ii=(j:Int):=by first|rfl|assumption|omega) (hm:j < m:=by first|assumption|omega) (hT:fty (Tbv.ts P) t=some ⟨t1,false,z1,o1,.sl e⟩:=by rfl) (hE:fty (Tbv.ts P) e=some ⟨t2,g2,s,o2,k2⟩:=by rfl) (hw:wtd ops L gd=some true:=by rfl) (hn:Nat.blt n N=true:=by rfl) :
  LG P ops Q (⟨some n,.indexAddr t x y,ty,ps,af,gd⟩ :: rest) N L c M R:=k.do_ (fun κ a w F S=>ex_idxaddr rfl (F.v hx) (F.v hy) (rn_ix hr hj hm hT hE)) hw hn
theorem vqix [Tbv P] {t t2:Nat} {g2:Bool} {o2:List Nat} {k2:TK} (k:HG P ops Q cH H fuel listed' N ((n,.pointer (some ⟨b,o,none⟩)) :: L) c M R) (hx:nxq ops listed L=some i:=by rfl) (hs9:setB listed i=some listed':=by rfl) (hi:ops[i]?=some ⟨some n,.indexAddr t x y,ty,ps,af,gd⟩:=by rfl) (hv:lko L x=some (.slice a m cp):=by rfl) (hy:lko L y=some (.int ik ii):=by rfl) (hq:Rat cH a s j b o l:=by assumption) (hj:ii=(j:Int):=by first|rfl|assumption|omega) (hm:j < m:=by first|assumption|omega) (hT:fty (Tbv.ts P) t=some ⟨t1,false,z1,o1,.sl e⟩:=by rfl) (hE:fty (Tbv.ts P) e=some ⟨t2,g2,s,o2,k2⟩:=by rfl) (hr:frq ops listed i=true:=by kernel_rfl)
  (hQ:∀ κ c a w,Q κ (.panic c) (a.put (some n) (.pointer (some ⟨b,o,none⟩))) w→Q κ (.panic c) a w:=by exact fun _ _ _ _ h=>h) (hw:wtd ops L gd=some true:=by rfl) (hn:Nat.blt n N=true:=by rfl):HG P ops Q cH H (fuel+1) listed N L c M R :=
 k.take_ (fun a w F _=>ex_idxaddr rfl (F.v hv) (F.v hy) (rn_ix hq hj hm hT hE)) hi hs9 hr hQ hw hn
theorem gl_ra [Tbv P] {T:Nat} {w:World} (hr:Rat c a s j b o l) (hc:Le c w) (hT:fty (Tbv.ts P) T=some ⟨t1,true,z1,o1,k1⟩) (hz:l.length=z1):(Instr.loadAt T (.pointer (some ⟨b,o,none⟩))).run P w=.ok (.agg l.toArray) w:=by
 have e3:=run_loadCells_list (P:=P) (w:=w) ⟨b,o,none⟩ l (fun j u hu=>by rw[Addr.add_lit];exact hc.cell (hr.h j u (by rw[nth_eq];exact hu)));have e5:(Instr.loadAt T (.pointer (some ⟨b,o,none⟩))).run P w=(loadVar T ⟨b,o,none⟩).run P w:=by rfl
 rw[e5];unfold loadVar;simp only[Sem.run_bind,ty_agg hT w,ty_size hT w,← hz,Result.andThen_ok,if_true];simp[e3,Result.andThen]
theorem vlr [Tbv P] {T:Nat} (k:LG P ops Q rest N ((n,.agg l.toArray) :: L) c M R) (hx:lko L x=some (.pointer (some ⟨b,o,none⟩)):=by rfl) (hr:Rat c a s j b o l:=by assumption) (hT:fty (Tbv.ts P) T=some ⟨t1,true,z1,o1,k1⟩:=by rfl) (hz:l.length=z1:=by rfl) (hw:wtd ops L gd=some true:=by rfl) (hn:Nat.blt n N=true:=by rfl) :
  LG P ops Q (⟨some n,.load T x,ty,ps,af,gd⟩ :: rest) N L c M R:=k.do_ (fun κ a w F S=>ex_load rfl (F.v hx) (gl_ra hr S.le hT hz)) hw hn
theorem vlr1 [Tbv P] {T:Nat} (k:LG P ops Q rest N ((n,v) :: L) c M R) (hx:lko L x=some (.pointer (some ⟨b,o,none⟩)):=by rfl) (hr:Rat c a s j b o l:=by assumption) (hT:fty (Tbv.ts P) T=some ⟨t1,false,z1,o1,k1⟩:=by rfl) (hi:nth l 0=some v:=by rfl) (hw:wtd ops L gd=some true:=by rfl) (hn:Nat.blt n N=true:=by rfl) :
  LG P ops Q (⟨some n,.load T x,ty,ps,af,gd⟩ :: rest) N L c M R:=k.do_ (fun κ a w F S=>ex_load rfl (F.v hx) (gl_one (ty_agg hT w) (S.le.cell (hr.h 0 v hi)))) hw hn
theorem vlrf [Tbv P] {T f q:Nat} (k:LG P ops Q rest N ((n,v) :: L) c M R) (hx:lko L x=some (.pointer (some ⟨b,q,none⟩)):=by rfl) (hr:Rat c a s j b o l:=by assumption) (hT:fty (Tbv.ts P) T=some ⟨t1,false,z1,o1,k1⟩:=by rfl) (hq:q=o+f:=by rfl) (hi:nth l f=some v:=by rfl) (hw:wtd ops L gd=some true:=by rfl) (hn:Nat.blt n N=true:=by rfl) :
  LG P ops Q (⟨some n,.load T x,ty,ps,af,gd⟩ :: rest) N L c M R:=k.do_ (fun κ a w F S=>ex_load rfl (F.v hx) (gl_one (ty_agg hT w) (by rw[hq];exact S.le.cell (hr.h f v hi)))) hw hn
theorem ved {m0:Bl} {ex:Exit} (k:EG P Q ex N L c M R):EG P Q ex N L c (m0 :: M) R:=⟨fun κ a w F S=>k.h κ a w F S.drop⟩
end
end Go.Proofs.YtofjhopecfmbcaaGreatDoor
