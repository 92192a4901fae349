import Derived.Test.YtdgmkcfkpknamaaGreatDoorYI6
import Derived.Test.YtdgmkcfkpknamaaGreatDoorYJ8
import Derived.Test.YtdgmkcfkpknamaaGreatDoorYI2
import Derived.Test.YtdgmkcfkpknamaaGreatDoorYF3
import Derived.Test.YtdgmkcfkpknamaaGreatDoorYJ1
import Derived.Test.YtdgmkcfkpknamaaGreatDoorYH4
namespace Go.Proofs.YtdgmkcfkpknamaaGreatDoor
open Go.RowKit
set_option linter.unusedVariables false
set_option linter.unusedSimpArgs false
set_option maxRecDepth 100000
set_option maxHeartbeats 8000000
section
variable {P:Program} {c:World}
theorem Tr.ownrU (u : Value → Value) {e k n f : Nat} {fn : Func} {args : List Value} {xs : List Value} (hf : P.funcs[f]? = some fn) (h : ∀ w, Le c w → Calls P f args.toArray w fun ed w' => ∃ a cp, ed = .returned (u (.slice a n cp)) ∧ w'.ownsRow w.heap.size e k (.slice a n cp) n xs ∧ Kept No w w') (hb : fn.body.isNone = false := by rfl) (hg : (fn.name == "runtime.NumGoroutine") = false := by kernel_rfl) :
  Tr P f args c [] [] (fun x:Option Addr × Nat=>u (.slice x.1 n x.2)) (fun _=>c) (fun _=>[]) (fun x=>[⟨e,k,.slice x.1 n x.2,n,xs⟩]) (fun _=>True) :=
 ⟨fun args w=>gx_fn hf hg hb args w,fun κ w S=>(h w S.le).mono fun ed w' ⟨a,cp,h1,h2,h3⟩=>⟨(a,cp),h1,trivial,by
  have l1:=S.k.size;have l2:=S.le.size;refine ⟨S.k.trans h3,h3.any,Le.refl c,fun g _ _ h=>h,fun g hg=>?_,S.le.no h3,by simp,.nil,fun x hx=>?_,List.pairwise_singleton _ _,by simp⟩
  ·rcases hg with ⟨y,hy,_⟩|⟨y,hy,hg⟩
   ·cases hy
   ·rw[List.mem_singleton.1 hy]at hg
    have:=(h2.lt g hg).1
    exact ⟨Nat.le_trans l1 this,.inr this,.inl (Nat.le_trans l2 this)⟩
  ·rw[List.mem_singleton.1 hx]
   exact ⟨h2.1,h2.2.imp id fun ⟨g,cap,cur,q1,q2,q3⟩=>⟨g,cap,cur,q1,Nat.le_trans l1 q2,q3⟩⟩⟩⟩
theorem Tr.frz {α : Type} {vf : α → Value} {r' : α → Rwv} {φ : α → Prop} {e k i m cp f : Nat} {fn : Func} {a : Option Addr} {xs : List Value} {args : List Value} (hf : P.funcs[f]? = some fn) (h : ∀ c', Le c c' → Own9 c' e a m cp xs → Tr P f args c' [] [] vf (fun _ => c') (fun _ => []) (fun x => [r' x]) φ) (hb : fn.body.isNone = false := by rfl) (hg : (fn.name == "runtime.NumGoroutine") = false := by kernel_rfl) :
  Tr P f args c [] [⟨e,k,.slice a m cp,i,xs⟩] (fun x:α × World=>vf x.1) (fun x=>x.2) (fun _=>[]) (fun x=>[r' x.1]) (fun x=>Le c x.2) :=
 ⟨fun args w=>gx_fn hf hg hb args w,fun κ w S=>by
  obtain ⟨c',k1,k2,S1⟩:=S.sub.freeze9;exact ((h c' k1 k2).h _ w S1).mono fun ed w' ⟨x,h1,_,S2⟩=>⟨(x,c'),h1,k1,St.frame (M1:=[]) (M2:=[]) (R1:=[]) (R2:=[]) S1 S2⟩⟩
end
abbrev Oy (f:Nat) (args:List Value) (c:World) (x:List UInt8):Prop:=Tr Tryz.prog f args c [] [] (fun y:Option Addr × Nat=>.slice y.1 x.length y.2) (fun _=>c) (fun _=>[]) (fun y=>[byR y.1 y.2 x]) (fun _=>True)
abbrev Ro (f:Nat) (args:List Value) (c:World) (a:Option Addr) (n:Nat) (l x:List UInt8):Prop:=Tr Tryz.prog f args c [] [byR a n l] (fun y:(Option Addr × Nat) × World=>.slice y.1.1 (l++x).length y.1.2) (fun y=>y.2) (fun _=>[]) (fun y=>[byR y.1.1 y.1.2 (l++x)]) (fun y=>Le c y.2)
theorem Lays.oy {f : Nat} {fn : Func} {args : List Value} {c : World} {x y : List UInt8} (hf : Tryz.prog.funcs[f]? = some fn) (h : ∀ w, Le c w → Calls Tryz.prog f args.toArray w (Lays w y)) (e : y = x) (hb : fn.body.isNone = false := by rfl) (hg : (fn.name == "runtime.NumGoroutine") = false := by kernel_rfl) : Oy f args c x := by
 subst e;exact Tr.ownr hf (fun w k=>(h w k).mono fun e w' ⟨g,cap,h1,_,h2,h3⟩=>⟨_,_,h1,h2,h3⟩) hb hg
theorem own9_nil {c:World} {e m cp:Nat} {a:Option Addr} {xs:List Value} (h:Own9 c e a m cp xs):a=none→m=0∧cp=0:=fun q=>by
 have h1:=h.nil q;have h2:=h.le;omega
section
variable {c:World} {a:Option Addr} {n:Nat} {l:List UInt8}
theorem oy_bin {s:ByteArray} (hr:Row c a (B8 l)) (hn:a=none→l.length=0∧n=0) (hl:l.length≤100000) (hs:s.size≤65535):Oy 114 [.slice a l.length n,.string s] c (l++binBy s) :=
 Lays.oy Tryz.func114 (fun w k=>refbinX a n l s w hs (hr.le k) hn hl) rfl
theorem oy_two {x:Nat} (hr:Row c a (B8 l)) (hn:a=none→l.length=0∧n=0) (hl:l.length≤100000) (hx:x < 65536):Oy 115 [.slice a l.length n,.int .u64 x,.int .i64 2] c (l++by2 x) :=
 Lays.oy Tryz.func115 (fun w k=>num2_any a n l x w (by omega) (hr.le k) (fun h=>(hn h).2) hl) (by unfold addTwo by2;rw[show (x:Int) % 65536=x by omega])
theorem oy_var {x:Nat} (hr:Row c a (B8 l)) (hn:a=none→l.length=0∧n=0) (hl:l.length≤100000) (hx:x≤268435455):Oy 58 [.slice a l.length n,.int .u32 x] c (l++varL x) :=
 Lays.oy Tryz.func58 (fun w k=>refvX a n l x w (by omega) (hr.le k) hn hl) rfl
theorem ro_bin {s:ByteArray} (hl:l.length≤100000) (hs:s.size≤65535):Ro 114 [.slice a l.length n,.string s] c a n l (binBy s) :=
 Tr.frz Tryz.func114 fun c' _ o=>oy_bin o.row (own9_nil o) hl hs
theorem ro_two {x:Nat} (hl:l.length≤100000) (hx:x < 65536):Ro 115 [.slice a l.length n,.int .u64 x,.int .i64 2] c a n l (by2 x) :=
 Tr.frz Tryz.func115 fun c' _ o=>oy_two o.row (own9_nil o) hl hx
theorem ro_var {x:Nat} (hl:l.length≤100000) (hx:x≤268435455):Ro 58 [.slice a l.length n,.int .u32 x] c a n l (varL x) :=
 Tr.frz Tryz.func58 fun c' _ o=>oy_var o.row (own9_nil o) hl hx
theorem tr_rput {ax:Option Addr} {m i:Nat} {K:List Pr} (hr:Row c a (B8 l)) (hn:a=none→l.length=0∧n=0) (hl:l.length≤100000) (hk:Row c ax (PC K)) (hK:K.length≤1000) (hw:∀ p∈K,p.wf') (hi:lenGo K 0=some i):Tr Tryz.prog 163 [.slice a l.length n,.slice ax K.length m] c [] [] (fun y:Option Addr × Nat=>.tuple #[.slice y.1 (l++putL [] K).length y.2,.bool true]) (fun _=>c) (fun _=>[]) (fun y=>[byR y.1 y.2 (l++putL [] K)]) (fun _=>True):=by
 have e:putL l K=l++putL [] K:=by unfold putL;rw[hi];simp[addVar]
 refine Tr.ownrU (fun v=>.tuple #[v,.bool true]) Tryz.func163 fun w k=>(rput_str a n l ax m K w (hr.le k) hn hl (hk.le k) hK hw).mono fun ed w' h=>?_
 have h2:=h.2 i hi;rw[e]at h2;exact h2
theorem ro_sec {v:Int} {ax:Option Addr} {m:Nat} {K:List Pr} (hl:l.length≤100000) (hk:Row c ax (PC K)) (hK:K.length≤1000) (hw:∀ p∈K,p.wf') (hg:v=4∨∃ i,lenGo K 0=some i):Ro 112 [.int .i64 v,.slice a l.length n,.slice ax K.length m] c a n l (secB v K):=by
 by_cases h4:v=4
 ·subst h4
  have e:l++secB 4 K=l:=by simp[secB]
  unfold Ro;rw[e];refine Tr.in Tryz.func112 ?_;refine go ?_;exact vrt ((a,n),c) (Le.refl c)
 ·obtain ⟨i,hi⟩:=hg.resolve_left h4
  have e:secB v K=putL [] K:=if_neg h4;rw[e];refine Tr.in Tryz.func112 ?_;refine go ?_;refine vlf9 fun c1 l1 o1=>?_
  refine vt0r (tr_rput o1.row (own9_nil o1) hl (hk.le l1) hK hw hi) fun y _=>?_
  refine go ?_;exact vrt (y,c1) l1
end
section
variable {P:Program} {ops:Array Oper} {Q:Kn} {rest:List Oper} {N n i fuel:Nat} {listed listed':List Bool} {L:List (Nat × Value)} {cH c:World} {H M:List Bl} {R:List Rwv} {ty:TypeId} {ps:String} {af:Array Edge} {gd:Option (Nat × Bool)}
theorem vtr {α:Type} {vf:α→Value} {cf:α→World} {r:Rwv} {r':α→Rwv} {φ:α→Prop} {f:Nat} {l:List Operand} {vs:List Value} {ats:Array TypeId} (hc:Tr P f vs c [] [r] vf cf (fun _=>[]) (fun x=>[r' x]) φ) (k:∀ x,φ x→LG P ops Q rest N ((n,vf x) :: L) (cf x) M (r' x :: R)) (hx:lkos L l=some vs:=by rfl) (hw:wtd ops L gd=some true:=by rfl) (hn:Nat.blt n N=true:=by rfl) :
  LG P ops Q (⟨some n,.call { callee:=.value (.func f),args:=l.toArray,argTypes:=ats },ty,ps,af,gd⟩ :: rest) N L c M (r :: R) :=
 vta (M1:=[]) (R1:=[r]) hc k hx hw hn
theorem vqr {α:Type} {vf:α→Value} {cf:α→World} {r:Rwv} {r':α→Rwv} {φ:α→Prop} {f:Nat} {l:List Operand} {vs:List Value} {ats:Array TypeId} (hc:Tr P f vs c [] [r] vf cf (fun _=>[]) (fun x=>[r' x]) φ) (k:∀ x,φ x→HG P ops Q cH H fuel listed' N ((n,vf x) :: L) (cf x) M (r' x :: R)) (hlc:∀ x,φ x→Le c (cf x):=by intro _ h;first|exact Le.refl _|exact h|exact h.1) (hH2:∀ x:α,∀ y∈H,y∈M:=by simp) (hxl:al1 ops listed=some i:=by rfl) (hi:ops[i]?=some ⟨some n,.call { callee:=.value (.func f),args:=l.toArray,argTypes:=ats },ty,ps,af,gd⟩:=by rfl) (hs9:setB listed i=some listed':=by rfl) (hv:lkos L l=some vs:=by rfl) (hr:Region.ready .any ops listed.toArray=[i]:=by kernel_rfl) (hw:wtd ops L gd=some true:=by rfl) (hn:Nat.blt n N=true:=by rfl) :
  HG P ops Q cH H (fuel+1) listed N L c M (r :: R):=HG.ta (M1:=[]) (R1:=[r]) hc k hlc hH2 hi hs9 hv hr hw hn
theorem vhf9 {e k m cp i9:Nat} {a:Option Addr} {xs:List Value} (h:∀ c',Le c c'→Own9 c' e a m cp xs→HG P ops Q cH H fuel listed N L c' M R):HG P ops Q cH H fuel listed N L c M (⟨e,k,.slice a m cp,i9,xs⟩ :: R) :=
 ⟨fun hC hH κ A w F S=>by obtain ⟨c',h1,h2,h3⟩:=S.freeze9;exact (h c' h1 h2).h (hC.trans h1) hH κ A w F h3⟩
theorem vhfb {b:Nat} {t:TypeId} {l:List Value} (h:∀ c',Le c c'→Row c' (some ⟨b,0,none⟩) l→HG P ops Q cH H fuel listed N L c' M R) (hH2:∀ y∈H,y∈M:=by simp):HG P ops Q cH H fuel listed N L c (⟨b,t,l⟩ :: M) R :=
 ⟨fun hC hH κ A w F S=>by obtain ⟨c',h1,h2,h3⟩:=S.freezeB;exact (h c' h1 h2).h (hC.trans h1) hH2 κ A w F h3⟩
theorem St.blkrow {κ:Cx} {w:World} {b m k:Nat} {t:TypeId} {l:List Value} (S:St κ c (⟨b,t,l⟩ :: M) R w) (hl:l.length=m * k) (hm:m≤maxLen):St κ c M (⟨t,k,.slice (some ⟨b,0,none⟩) m m,m,l⟩ :: R) w:=by
 have hb:=S.own b (.inl ⟨_,List.mem_cons_self ..,rfl⟩);have hB:=S.m _ (List.mem_cons_self ..);refine ⟨S.k,S.k1,S.lc,S.oc,fun g hg=>S.own g ?_,S.le,fun y hy=>S.m y (List.mem_cons_of_mem _ hy),(List.pairwise_cons.1 S.md).2,?_,?_,?_⟩
 ·rcases hg with ⟨y,hy,e⟩|⟨x,hx,e⟩
  ·exact .inl ⟨y,List.mem_cons_of_mem _ hy,e⟩
  ·rcases List.mem_cons.1 hx with rfl|hx
   ·injection e with e
    exact .inl ⟨_,List.mem_cons_self ..,e⟩
   ·exact .inr ⟨x,hx,e⟩
 ·intro x hx
  rcases List.mem_cons.1 hx with rfl|hx
  ·refine ⟨hl,.inr ⟨b,m,l.toArray,rfl,hb.1,hB,Nat.le_refl _,hm,by simpa using hl,?_⟩⟩
   rw[List.take_of_length_le (by simp[hl])]
  ·exact S.r x hx
 ·refine List.pairwise_cons.2 ⟨fun x hx g hg=>?_,S.rd⟩
  injection hg with hg;subst hg;exact S.mr _ (List.mem_cons_self ..) x hx
 ·intro y hy x hx
  rcases List.mem_cons.1 hx with rfl|hx
  ·intro e
   injection e with e;exact (List.pairwise_cons.1 S.md).1 y hy e
  ·exact S.mr y (List.mem_cons_of_mem _ hy) x hx
theorem vhbr {b m:Nat} {t:TypeId} {l:List Value} (x:List UInt8) (h:HG P ops Q cH H fuel listed N L c M (⟨t,1,.slice (some ⟨b,0,none⟩) x.length m,x.length,B8 x⟩ :: R)) (hl:l=B8 x) (hm:m=x.length) (hx:x.length≤1000) (hH2:∀ y∈H,y∈M:=by simp):HG P ops Q cH H fuel listed N L c (⟨b,t,l⟩ :: M) R:=by
 subst hl hm;exact ⟨fun hC hH κ A w F S=>h.h hC hH2 κ A w F (S.blkrow (by simp[B8]) (by unfold maxLen;omega))⟩
end
abbrev Rn (f:Nat) (args:List Value) (c:World) (x:List UInt8):Prop:=Tr Tryz.prog f args c [] [] (fun y:(Option Addr × Nat) × World=>.slice y.1.1 x.length y.1.2) (fun y=>y.2) (fun _=>[]) (fun y=>[byR y.1.1 y.1.2 x]) (fun y=>Le c y.2)
theorem B8_by1 (n:Nat) (h:n < 256):B8 (by1 n)=[.int .u8 n]:=by
 unfold by1 B8 byteOf;simp;omega
section
variable {c:World} {v:Int}
theorem ro_code (p:Pk) (s:Sl) (hp:p.At s c) (hF:Fit p) (hL:Lays9 v p) (hP:p.props.length≤1000) {a:Option Addr} {n:Nat} {l:List UInt8} (hl:l.length≤90000):Ro 116 [.int .i64 v,.slice a l.length n,p.val s] c a n l (shortB v p):=by
 have hcd:=hF.code
 by_cases h0:v=4∨(p.code=0∧p.props.length=0)
 ·have e:l++shortB v p=l:=by unfold shortB;rw[if_pos h0];simp
  unfold Ro;rw[e];refine Tr.in Tryz.func116 ?_;refine go ?_;refine vA fun b=>?_
  repeat' first|refine go ?_|refine vc (fun _=>?_) fun _=>?_|refine vg (fun _=>?_) fun _=>?_|fail
  all_goals first
   | exact ved (vrt ((a,n),c) (Le.refl c))
   | (exfalso;omega)
 ·have h4:v≠4:=fun q=>h0 (.inl q)
  have h5:¬ (p.code=0∧p.props.length=0):=fun q=>h0 (.inr q)
  by_cases h6:p.props.length=0
  ·have h7:p.code≠0:=fun q=>h5 ⟨q,h6⟩
   have e:shortB v p=by1 p.code:=by unfold shortB;rw[if_neg h0,if_pos h6]
   rw[e];refine Tr.in Tryz.func116 ?_;refine go ?_;refine vA fun b=>?_
   repeat' first|refine go ?_|refine vc (fun _=>?_) fun _=>?_|refine vg (fun _=>?_) fun _=>?_|refine vA fun b9=>?_|refine vgb fun a' cp'=>?_|fail
   have n1:l.length+1=(l++by1 p.code).length:=by rw[List.length_append,b1_len]
   have n2:B8 l++[.int .u8 p.code]=B8 (l++by1 p.code):=by rw[B8_append,B8_by1 _ hcd]
   rw[n1,n2];exact ved (ved (vrt ((a',cp'),c) (Le.refl c)))
  ·have e:shortB v p=by1 p.code++secB v p.props:=by unfold shortB;rw[if_neg h0,if_neg h6]
   unfold Ro;rw[e,show l++(by1 p.code++secB v p.props)=(l++by1 p.code)++secB v p.props by simp];have t1:=fun (a:Option Addr) (n:Nat)=>ro_sec (c:=c) (a:=a) (n:=n) (v:=v) (m:=s.pc) (l:=l++by1 p.code) (K:=p.props) (by rw[List.length_append,b1_len];omega) hp.hp hP hF.wf.p hL.p
   refine Tr.in Tryz.func116 ?_;refine go ?_;refine vA fun b=>?_
   repeat' first|refine go ?_|refine vc (fun _=>?_) fun _=>?_|refine vg (fun _=>?_) fun _=>?_|refine vA fun b9=>?_|refine vgb fun a' cp'=>?_|fail
   all_goals
    have n1:l.length+1=(l++by1 p.code).length:=by rw[List.length_append,b1_len]
    have n2:B8 l++[.int .u8 p.code]=B8 (l++by1 p.code):=by rw[B8_append,B8_by1 _ hcd]
    rw[n1,n2];refine vtr (t1 a' cp') fun y hy=>?_
    refine go ?_;exact ved (ved (vrt y hy))
end
end Go.Proofs.YtdgmkcfkpknamaaGreatDoor
