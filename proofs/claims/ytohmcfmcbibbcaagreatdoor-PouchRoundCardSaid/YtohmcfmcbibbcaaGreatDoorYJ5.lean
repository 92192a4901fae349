import Derived.Test.YtohmcfmcbibbcaaGreatDoorYI6
import Derived.Test.YtohmcfmcbibbcaaGreatDoorYJ8
import Derived.Test.YtohmcfmcbibbcaaGreatDoorYI2
import Derived.Test.YtohmcfmcbibbcaaGreatDoorYF3
import Derived.Test.YtohmcfmcbibbcaaGreatDoorYJ1
import Derived.Test.YtohmcfmcbibbcaaGreatDoorYH4
namespace Go.Proofs.YtohmcfmcbibbcaaGreatDoor
open Go.RowKit
set_option linter.unusedVariables false
set_option linter.unusedSimpArgs false
set_option maxRecDepth 100000
set_option maxHeartbeats 8000000
section
variable {P:Program} {c:World}
theorem Tr.ownrU (u : Value → Value) {e k n f : Nat} {fn : Func} {args : List Value} {xs : List Value} (hf : P.funcs[f]? = some fn) (h : ∀ w, Le c w → Calls P f args.toArray w fun ed w' => ∃ a cp, ed = .returned (u (.slice a n cp)) ∧ w'.ownsRow w.heap.size e k (.slice a n cp) n xs ∧ Kept No w w') (hb : fn.body.isNone = false := by rfl) (hg : (fn.name == "runtime.NumGoroutine") = false := by kernel_rfl) :
  Tr P f args c [] [] (fun x:Option Addr × Nat=>u (.slice x.1 n x.2)) (fun _=>c) (fun _=>[]) (fun x=>[⟨e,k,.slice x.1 n x.2,n,xs⟩]) (fun _=>True) :=
 ⟨fun args w=>gx_fn hf hg hb args w,fun κ w S=>(h w S.le).mono fun ed w' ⟨a,cp,h1,h2,h3⟩=>⟨(a,cp),h1,trivial,by
  have l1:=S.k.size;have l2:=S.le.size;refine ⟨S.k.trans h3,h3.any,Le.refl c,fun g _ _ h=>h,fun g hg=>?_,S.le.no h3,by simp,.nil,fun x hx=>?_,List.pairwise_singleton _ _,by simp⟩
  ·rcases hg with ⟨y,hy,_⟩|⟨y,hy,hg⟩
   ·cases hy
   ·rw[List.mem_singleton.1 hy]at hg
    have:=(h2.lt g hg).1
    exact ⟨Nat.le_trans l1 this,.inr this,.inl (Nat.le_trans l2 this)⟩
  ·rw[List.mem_singleton.1 hx]
   exact ⟨h2.1,h2.2.imp id fun ⟨g,cap,cur,q1,q2,q3⟩=>⟨g,cap,cur,q1,Nat.le_trans l1 q2,q3⟩⟩⟩⟩
theorem Tr.frz {α : Type} {vf : α → Value} {r' : α → Rwv} {φ : α → Prop} {e k i m cp f : Nat} {fn : Func} {a : Option Addr} {xs : List Value} {args : List Value} (hf : P.funcs[f]? = some fn) (h : ∀ c', Le c c' → Own9 c' e a m cp xs → Tr P f args c' [] [] vf (fun _ => c') (fun _ => []) (fun x => [r' x]) φ) (hb : fn.body.isNone = false := by rfl) (hg : (fn.name == "runtime.NumGoroutine") = false := by kernel_rfl) :
  Tr P f args c [] [⟨e,k,.slice a m cp,i,xs⟩] (fun x:α × World=>vf x.1) (fun x=>x.2) (fun _=>[]) (fun x=>[r' x.1]) (fun x=>Le c x.2) :=
 ⟨fun args w=>gx_fn hf hg hb args w,fun κ w S=>by
  obtain ⟨c',k1,k2,S1⟩:=S.sub.freeze9;exact ((h c' k1 k2).h _ w S1).mono fun ed w' ⟨x,h1,_,S2⟩=>⟨(x,c'),h1,k1,St.frame (M1:=[]) (M2:=[]) (R1:=[]) (R2:=[]) S1 S2⟩⟩
end
abbrev Oy (f:Nat) (args:List Value) (c:World) (x:List UInt8):Prop:=Tr Tryz.prog f args c [] [] (fun y:Option Addr × Nat=>.slice y.1 x.length y.2) (fun _=>c) (fun _=>[]) (fun y=>[byR y.1 y.2 x]) (fun _=>True)
abbrev Ro (f:Nat) (args:List Value) (c:World) (a:Option Addr) (n:Nat) (l x:List UInt8):Prop:=Tr Tryz.prog f args c [] [byR a n l] (fun y:(Option Addr × Nat) × World=>.slice y.1.1 (l++x).length y.1.2) (fun y=>y.2) (fun _=>[]) (fun y=>[byR y.1.1 y.1.2 (l++x)]) (fun y=>Le c y.2)
theorem Lays.oy {f : Nat} {fn : Func} {args : List Value} {c : World} {x y : List UInt8} (hf : Tryz.prog.funcs[f]? = some fn) (h : ∀ w, Le c w → Calls Tryz.prog f args.toArray w (Lays w y)) (e : y = x) (hb : fn.body.isNone = false := by rfl) (hg : (fn.name == "runtime.NumGoroutine") = false := by kernel_rfl) : Oy f args c x := by
 subst e;exact Tr.ownr hf (fun w k=>(h w k).mono fun e w' ⟨g,cap,h1,_,h2,h3⟩=>⟨_,_,h1,h2,h3⟩) hb hg
theorem own9_nil {c:World} {e m cp:Nat} {a:Option Addr} {xs:List Value} (h:Own9 c e a m cp xs):a=none→m=0∧cp=0:=fun q=>by
 have h1:=h.nil q;have h2:=h.le;omega
section
variable {c:World} {a:Option Addr} {n:Nat} {l:List UInt8}
theorem oy_bin {s:ByteArray} (hr:Row c a (B8 l)) (hn:a=none→l.length=0∧n=0) (hl:l.length≤100000) (hs:s.size≤65535):Oy 96 [.slice a l.length n,.string s] c (l++binBy s) :=
 Lays.oy Tryz.func96 (fun w k=>refbinX a n l s w hs (hr.le k) hn hl) rfl
theorem oy_two {x:Nat} (hr:Row c a (B8 l)) (hn:a=none→l.length=0∧n=0) (hl:l.length≤100000) (hx:x < 65536):Oy 97 [.slice a l.length n,.int .u64 x,.int .i64 2] c (l++by2 x) :=
 Lays.oy Tryz.func97 (fun w k=>num2_any a n l x w (by omega) (hr.le k) (fun h=>(hn h).2) hl) (by unfold addTwo by2;rw[show (x:Int) % 65536=x by omega])
theorem oy_var {x:Nat} (hr:Row c a (B8 l)) (hn:a=none→l.length=0∧n=0) (hl:l.length≤100000) (hx:x≤268435455):Oy 41 [.slice a l.length n,.int .u32 x] c (l++varL x) :=
 Lays.oy Tryz.func41 (fun w k=>refvX a n l x w (by omega) (hr.le k) hn hl) rfl
theorem ro_bin {s:ByteArray} (hl:l.length≤100000) (hs:s.size≤65535):Ro 96 [.slice a l.length n,.string s] c a n l (binBy s) :=
 Tr.frz Tryz.func96 fun c' _ o=>oy_bin o.row (own9_nil o) hl hs
theorem ro_two {x:Nat} (hl:l.length≤100000) (hx:x < 65536):Ro 97 [.slice a l.length n,.int .u64 x,.int .i64 2] c a n l (by2 x) :=
 Tr.frz Tryz.func97 fun c' _ o=>oy_two o.row (own9_nil o) hl hx
theorem tr_rput {ax:Option Addr} {m i:Nat} {K:List Pr} (hr:Row c a (B8 l)) (hn:a=none→l.length=0∧n=0) (hl:l.length≤100000) (hk:Row c ax (PC K)) (hK:K.length≤1000) (hw:∀ p∈K,p.wf') (hi:lenGo K 0=some i):Tr Tryz.prog 148 [.slice a l.length n,.slice ax K.length m] c [] [] (fun y:Option Addr × Nat=>.tuple #[.slice y.1 (l++putL [] K).length y.2,.bool true]) (fun _=>c) (fun _=>[]) (fun y=>[byR y.1 y.2 (l++putL [] K)]) (fun _=>True):=by
 have e:putL l K=l++putL [] K:=by unfold putL;rw[hi];simp[addVar]
 refine Tr.ownrU (fun v=>.tuple #[v,.bool true]) Tryz.func148 fun w k=>(rput_str a n l ax m K w (hr.le k) hn hl (hk.le k) hK hw).mono fun ed w' h=>?_
 have h2:=h.2 i hi;rw[e]at h2;exact h2
theorem ro_sec {v:Int} {ax:Option Addr} {m:Nat} {K:List Pr} (hl:l.length≤100000) (hk:Row c ax (PC K)) (hK:K.length≤1000) (hw:∀ p∈K,p.wf') (hg:v=4∨∃ i,lenGo K 0=some i):Ro 94 [.int .i64 v,.slice a l.length n,.slice ax K.length m] c a n l (secB v K):=by
 by_cases h4:v=4
 ·subst h4
  have e:l++secB 4 K=l:=by simp[secB]
  unfold Ro;rw[e];refine Tr.in Tryz.func94 ?_;refine go ?_;exact vrt ((a,n),c) (Le.refl c)
 ·obtain ⟨i,hi⟩:=hg.resolve_left h4
  have e:secB v K=putL [] K:=if_neg h4;rw[e];refine Tr.in Tryz.func94 ?_;refine go ?_;refine vlf9 fun c1 l1 o1=>?_
  refine vt0r (tr_rput o1.row (own9_nil o1) hl (hk.le l1) hK hw hi) fun y _=>?_
  refine go ?_;exact vrt (y,c1) l1
end
section
variable {P:Program} {ops:Array Oper} {Q:Kn} {rest:List Oper} {N n i fuel:Nat} {listed listed':List Bool} {L:List (Nat × Value)} {cH c:World} {H M:List Bl} {R:List Rwv} {ty:TypeId} {ps:String} {af:Array Edge} {gd:Option (Nat × Bool)}
theorem vtr {α:Type} {vf:α→Value} {cf:α→World} {r:Rwv} {r':α→Rwv} {φ:α→Prop} {f:Nat} {l:List Operand} {vs:List Value} {ats:Array TypeId} (hc:Tr P f vs c [] [r] vf cf (fun _=>[]) (fun x=>[r' x]) φ) (k:∀ x,φ x→LG P ops Q rest N ((n,vf x) :: L) (cf x) M (r' x :: R)) (hx:lkos L l=some vs:=by rfl) (hw:wtd ops L gd=some true:=by rfl) (hn:Nat.blt n N=true:=by rfl) :
  LG P ops Q (⟨some n,.call { callee:=.value (.func f),args:=l.toArray,argTypes:=ats },ty,ps,af,gd⟩ :: rest) N L c M (r :: R) :=
 vta (M1:=[]) (R1:=[r]) hc k hx hw hn
theorem vqr {α:Type} {vf:α→Value} {cf:α→World} {r:Rwv} {r':α→Rwv} {φ:α→Prop} {f:Nat} {l:List Operand} {vs:List Value} {ats:Array TypeId} (hc:Tr P f vs c [] [r] vf cf (fun _=>[]) (fun x=>[r' x]) φ) (k:∀ x,φ x→HG P ops Q cH H fuel listed' N ((n,vf x) :: L) (cf x) M (r' x :: R)) (hlc:∀ x,φ x→Le c (cf x):=by intro _ h;first|exact Le.refl _|exact h|exact h.1) (hH2:∀ x:α,∀ y∈H,y∈M:=by simp) (hxl:al1 ops listed=some i:=by rfl) (hi:ops[i]?=some ⟨some n,.call { callee:=.value (.func f),args:=l.toArray,argTypes:=ats },ty,ps,af,gd⟩:=by rfl) (hs9:setB listed i=some listed':=by rfl) (hv:lkos L l=some vs:=by rfl) (hr:Region.ready .any ops listed.toArray=[i]:=by kernel_rfl) (hw:wtd ops L gd=some true:=by rfl) (hn:Nat.blt n N=true:=by rfl) :
  HG P ops Q cH H (fuel+1) listed N L c M (r :: R):=HG.ta (M1:=[]) (R1:=[r]) hc k hlc hH2 hi hs9 hv hr hw hn
theorem vhfb {b:Nat} {t:TypeId} {l:List Value} (h:∀ c',Le c c'→Row c' (some ⟨b,0,none⟩) l→HG P ops Q cH H fuel listed N L c' M R) (hH2:∀ y∈H,y∈M:=by simp):HG P ops Q cH H fuel listed N L c (⟨b,t,l⟩ :: M) R :=
 ⟨fun hC hH κ A w F S=>by obtain ⟨c',h1,h2,h3⟩:=S.freezeB;exact (h c' h1 h2).h (hC.trans h1) hH2 κ A w F h3⟩
theorem St.blkrow {κ:Cx} {w:World} {b m k:Nat} {t:TypeId} {l:List Value} (S:St κ c (⟨b,t,l⟩ :: M) R w) (hl:l.length=m * k) (hm:m≤maxLen):St κ c M (⟨t,k,.slice (some ⟨b,0,none⟩) m m,m,l⟩ :: R) w:=by
 have hb:=S.own b (.inl ⟨_,List.mem_cons_self ..,rfl⟩);have hB:=S.m _ (List.mem_cons_self ..);refine ⟨S.k,S.k1,S.lc,S.oc,fun g hg=>S.own g ?_,S.le,fun y hy=>S.m y (List.mem_cons_of_mem _ hy),(List.pairwise_cons.1 S.md).2,?_,?_,?_⟩
 ·rcases hg with ⟨y,hy,e⟩|⟨x,hx,e⟩
  ·exact .inl ⟨y,List.mem_cons_of_mem _ hy,e⟩
  ·rcases List.mem_cons.1 hx with rfl|hx
   ·injection e with e
    exact .inl ⟨_,List.mem_cons_self ..,e⟩
   ·exact .inr ⟨x,hx,e⟩
 ·intro x hx
  rcases List.mem_cons.1 hx with rfl|hx
  ·refine ⟨hl,.inr ⟨b,m,l.toArray,rfl,hb.1,hB,Nat.le_refl _,hm,by simpa using hl,?_⟩⟩
   rw[List.take_of_length_le (by simp[hl])]
  ·exact S.r x hx
 ·refine List.pairwise_cons.2 ⟨fun x hx g hg=>?_,S.rd⟩
  injection hg with hg;subst hg;exact S.mr _ (List.mem_cons_self ..) x hx
 ·intro y hy x hx
  rcases List.mem_cons.1 hx with rfl|hx
  ·intro e
   injection e with e;exact (List.pairwise_cons.1 S.md).1 y hy e
  ·exact S.mr y (List.mem_cons_of_mem _ hy) x hx
theorem vhbr {b m:Nat} {t:TypeId} {l:List Value} (x:List UInt8) (h:HG P ops Q cH H fuel listed N L c M (⟨t,1,.slice (some ⟨b,0,none⟩) x.length m,x.length,B8 x⟩ :: R)) (hl:l=B8 x) (hm:m=x.length) (hx:x.length≤1000) (hH2:∀ y∈H,y∈M:=by simp):HG P ops Q cH H fuel listed N L c (⟨b,t,l⟩ :: M) R:=by
 subst hl hm;exact ⟨fun hC hH κ A w F S=>h.h hC hH2 κ A w F (S.blkrow (by simp[B8]) (by unfold maxLen;omega))⟩
end
abbrev Rn (f:Nat) (args:List Value) (c:World) (x:List UInt8):Prop:=Tr Tryz.prog f args c [] [] (fun y:(Option Addr × Nat) × World=>.slice y.1.1 x.length y.1.2) (fun y=>y.2) (fun _=>[]) (fun y=>[byR y.1.1 y.1.2 x]) (fun y=>Le c y.2)
theorem B8_by1 (n:Nat) (h:n < 256):B8 (by1 n)=[.int .u8 n]:=by
 unfold by1 B8 byteOf;simp;omega
section
variable {c:World} {v:Int}
theorem ro_code (p:Pk) (s:Sl) (hp:p.At s c) (hF:Fit p) (hL:Lays9 v p) (hP:p.props.length≤1000) {a:Option Addr} {n:Nat} {l:List UInt8} (hl:l.length≤90000):Ro 98 [.int .i64 v,.slice a l.length n,p.val s] c a n l (shortB v p):=by
 have hcd:=hF.code
 by_cases h0:v=4∨(p.code=0∧p.props.length=0)
 ·have e:l++shortB v p=l:=by unfold shortB;rw[if_pos h0];simp
  unfold Ro;rw[e];refine Tr.in Tryz.func98 ?_;refine go ?_;refine vA fun b=>?_
  repeat' first|refine go ?_|refine vc (fun _=>?_) fun _=>?_|refine vg (fun _=>?_) fun _=>?_|fail
  all_goals first
   | exact ved (vrt ((a,n),c) (Le.refl c))
   | (exfalso;omega)
 ·have h4:v≠4:=fun q=>h0 (.inl q)
  have h5:¬ (p.code=0∧p.props.length=0):=fun q=>h0 (.inr q)
  by_cases h6:p.props.length=0
  ·have h7:p.code≠0:=fun q=>h5 ⟨q,h6⟩
   have e:shortB v p=by1 p.code:=by unfold shortB;rw[if_neg h0,if_pos h6]
   rw[e];refine Tr.in Tryz.func98 ?_;refine go ?_;refine vA fun b=>?_
   repeat' first|refine go ?_|refine vc (fun _=>?_) fun _=>?_|refine vg (fun _=>?_) fun _=>?_|refine vA fun b9=>?_|refine vgb fun a' cp'=>?_|fail
   have n1:l.length+1=(l++by1 p.code).length:=by rw[List.length_append,b1_len]
   have n2:B8 l++[.int .u8 p.code]=B8 (l++by1 p.code):=by rw[B8_append,B8_by1 _ hcd]
   rw[n1,n2];exact ved (ved (vrt ((a',cp'),c) (Le.refl c)))
  ·have e:shortB v p=by1 p.code++secB v p.props:=by unfold shortB;rw[if_neg h0,if_neg h6]
   unfold Ro;rw[e,show l++(by1 p.code++secB v p.props)=(l++by1 p.code)++secB v p.props by simp];have t1:=fun (a:Option Addr) (n:Nat)=>ro_sec (c:=c) (a:=a) (n:=n) (v:=v) (m:=s.pc) (l:=l++by1 p.code) (K:=p.props) (by rw[List.length_append,b1_len];omega) hp.hp hP hF.wf.p hL.p
   refine Tr.in Tryz.func98 ?_;refine go ?_;refine vA fun b=>?_
   repeat' first|refine go ?_|refine vc (fun _=>?_) fun _=>?_|refine vg (fun _=>?_) fun _=>?_|refine vA fun b9=>?_|refine vgb fun a' cp'=>?_|fail
   all_goals
    have n1:l.length+1=(l++by1 p.code).length:=by rw[List.length_append,b1_len]
    have n2:B8 l++[.int .u8 p.code]=B8 (l++by1 p.code):=by rw[B8_append,B8_by1 _ hcd]
    rw[n1,n2];refine vtr (t1 a' cp') fun y hy=>?_
    refine go ?_;exact ved (ved (vrt y hy))
end
section
variable {P:Program} {ops:Array Oper} {Q:Kn} {N n i fuel:Nat} {listed listed':List Bool} {L:List (Nat × Value)} {cH c:World} {H M:List Bl} {R:List Rwv} {ty:TypeId} {ps:String} {af:Array Edge} {gd:Option (Nat × Bool)}
theorem vqt0r9 {α:Type} {vf:α→Value} {cf:α→World} {r':α→Rwv} {φ:α→Prop} {f:Nat} {l:List Operand} {vs:List Value} {ats:Array TypeId} (hc:Tr P f vs c [] [] vf cf (fun _=>[]) (fun x=>[r' x]) φ) (k:∀ x,φ x→HG P ops Q cH H fuel listed' N ((n,vf x) :: L) (cf x) M (r' x :: R)) (hlc:∀ x,φ x→Le c (cf x):=by intro _ h;first|exact Le.refl _|exact h.1) (hH2:∀ x:α,∀ y∈H,y∈M:=by simp) (hxl:al1 ops listed=some i:=by rfl) (hi:ops[i]?=some ⟨some n,.call { callee:=.value (.func f),args:=l.toArray,argTypes:=ats },ty,ps,af,gd⟩:=by rfl) (hs9:setB listed i=some listed':=by rfl) (hv:lkos L l=some vs:=by rfl) (hr:Region.ready .any ops listed.toArray=[i]:=by kernel_rfl) (hw:wtd ops L gd=some true:=by rfl) (hn:Nat.blt n N=true:=by rfl) :
  HG P ops Q cH H (fuel+1) listed N L c M R:=HG.ta (M1:=[]) (R1:=[]) hc k hlc hH2 hi hs9 hv hr hw hn
end
theorem vcd3 {P:Program} {Q:Kn} {N:Nat} {L:List (Nat × Value)} {c:World} {M:List Bl} {R:List Rwv} {xc:Code} {m0:Bl} (k:CG P Q xc N L c M R):CG P Q xc N L c (m0 :: M) R:=⟨fun κ a w F S=>k.h κ a w F S.drop⟩
section
variable {c:World} {v:Int}
theorem rn_con (p:Pk) (s:Sl) (hp:p.At s c) (hF:Fit p) (hR:Ri v p) (hL:Lays9 v p) (hP:p.props.length≤1000) (hW:p.willProps.length≤1000) (hB:(connB v p).length≤50000):Rn 93 [.int .i64 v,p.val s] c (connB v p):=by
 have b1:=ck_bit8 (c:=c) p.clean 2;have b2:=ck_bit8 (c:=c) p.hasWill 4;have b3:=ck_bit8 (c:=c) p.willRetain 32;have b4:=ck_bit8 (c:=c) p.hasPass 64;have b5:=ck_bit8 (c:=c) p.hasUser 128;have hwq:=hR.wq;have hv:=hR.hv;have hkeep:=hF.keep
 have hn:bitN p.clean 2≤2∧bitN p.hasWill 4≤4∧bitN p.willRetain 32≤32∧bitN p.hasPass 64≤64∧bitN p.hasUser 128≤128:=by
  unfold bitN;refine ⟨?_,?_,?_,?_,?_⟩<;>split<;>omega
 have hfl:conFlN p < 256:=by unfold conFlN;omega
 have e0:=oy_bin (c:=c) (a:=none) (n:=0) (l:=[]) (s:=mqtt) (.nil _ _) (fun _=>⟨rfl,rfl⟩) (by decide) (by decide);rw[List.nil_append]at e0;obtain ⟨l0,hl0⟩:∃ l0,l0=binBy mqtt++(by1 v.toNat++by1 (conFlN p)):=⟨_,rfl⟩
 have hz:l0.length=8:=by rw[hl0];rfl
 obtain ⟨l3,hl3⟩:∃ l3,l3=l0++by2 p.keep++secB v p.props++binBy p.client:=⟨_,rfl⟩
 obtain ⟨l4,hl4⟩:∃ l4,l4=l3++(if p.hasWill=true then secB v p.willProps++binBy p.willTopic++binBy p.willLoad else []):=⟨_,rfl⟩
 obtain ⟨l5,hl5⟩:∃ l5,l5=l4++(if p.hasUser=true then binBy p.user else []):=⟨_,rfl⟩
 obtain ⟨l6,hl6⟩:∃ l6,l6=l5++(if p.hasPass=true then binBy p.pass else []):=⟨_,rfl⟩
 have hcon:connB v p=l6:=by rw[hl6,hl5,hl4,hl3,hl0];unfold connB;simp only[List.append_assoc]
 rw[hcon]at hB ⊢;have g5:l5.length≤50000:=by have:=congrArg List.length hl6;rw[List.length_append]at this;omega
 have g4:l4.length≤50000:=by have:=congrArg List.length hl5;rw[List.length_append]at this;omega
 have g3:l3.length≤50000:=by have:=congrArg List.length hl4;rw[List.length_append]at this;omega
 have g2:(l0++by2 p.keep++secB v p.props).length≤50000:=by have:=congrArg List.length hl3;rw[List.length_append]at this;omega
 refine Tr.in Tryz.func93 ?_;refine go ?_;refine vA fun b0=>?_
 refine go ?_;refine vt0r e0 fun y0 _=>?_
 refine go ?_;refine vck (fun _:Unit=>[(0,.int .i64 v),(3,pt b0),(5,.slice y0.1 (binBy mqtt).length y0.2),(6,.int .i64 (conFlN p))]) (fun _=>c) (fun _=>[⟨b0,39,p.li s⟩]) (fun _=>[byR y0.1 y0.2 (binBy mqtt)]) (fun _=>True) ?_ fun _ _=>?_
 ·refine vh [0] ?_
  repeat' first|refine go ?_|refine vqx 0 ?_|fail
  exact vj () trivial (hL:=by refine ⟨rfl,rfl,rfl,?_,trivial⟩;show some (Value.int IntKind.i64 _)=some (.int .i64 _);unfold conFlN;congr 2)
 have hm:(binBy mqtt).length=6:=rfl;refine go ?_;refine vA fun b9=>?_
 refine vgb fun a' cp'=>?_
 have n1:(binBy mqtt).length+2=l0.length:=by rw[hl0];rfl
 have n2:B8 (binBy mqtt)++[.int .u8 v,.int .u8 (conFlN p)]=B8 l0:=by
  rw[hl0,B8_append,B8_append,B8_by1 _ hfl,B8_by1 _ (by omega),show ((v.toNat:Nat):Int)=v by omega]
  rfl
 rw[n1,n2];refine go ?_;have t1:=fun (a:Option Addr) (n:Nat) (c:World)=>ro_two (c:=c) (a:=a) (n:=n) (l:=l0) (x:=p.keep) (by omega) hkeep
 have t2:=fun (a:Option Addr) (n:Nat) (c':World) (k:Le c c')=>ro_sec (c:=c') (v:=v) (a:=a) (n:=n) (m:=s.pc) (l:=l0++by2 p.keep) (K:=p.props) (by rw[List.length_append,b2_len];omega) (hp.hp.le k) hP hF.wf.p hL.p
 have t3:=fun (a:Option Addr) (n:Nat) (c:World)=>ro_bin (c:=c) (a:=a) (n:=n) (l:=l0++by2 p.keep++secB v p.props) (s:=p.client) (by omega) hR.client
 refine vcd3 ?_;refine vck (fun y:(Option Addr × Nat) × World=>[(0,.int .i64 v),(3,pt b0),(5,.slice y.1.1 l3.length y.1.2)]) (fun y=>y.2) (fun _=>[⟨b0,39,p.li s⟩]) (fun y=>[byR y.1.1 y.1.2 l3]) (fun y=>Le c y.2) ?_ fun y4 k4=>?_
 ·subst hl3
  refine vh [0] ?_;refine go ?_
  repeat' first
   | refine go ?_
   | refine vqx 0 ?_
   | refine vqr (t1 a' cp' c) fun y1 k1=>?_
   | refine vqr (t2 _ _ _ k1) fun y2 k2=>?_
   | refine vqr (t3 _ _ _) fun y3 k3=>?_
   | fail
  exact vj y3 ((k1.trans k2).trans k3)
 refine go ?_;refine vck (fun y:(Option Addr × Nat) × World=>[(0,.int .i64 v),(3,pt b0),(5,.slice y.1.1 l4.length y.1.2)]) (fun y=>y.2) (fun _=>[⟨b0,39,p.li s⟩]) (fun y=>[byR y.1.1 y.1.2 l4]) (fun y=>Le c y.2) ?_ fun y5 k5=>?_
 ·cases hw:p.hasWill with
  | true =>
   have e:l4=l3++secB v p.willProps++binBy p.willTopic++binBy p.willLoad:=by rw[hl4,hw];simp
   have e1:(l3++secB v p.willProps++binBy p.willTopic++binBy p.willLoad).length≤50000:=by rw[← e];exact g4
   rw[List.length_append]at e1;have e2:=e1;rw[List.length_append]at e2;have u1:=ro_sec (c:=y4.2) (v:=v) (a:=y4.1.1) (n:=y4.1.2) (m:=s.wc) (l:=l3) (K:=p.willProps) (by omega) (hp.hw.le k4) hW hF.wf.w hL.w;have u2:=fun (a:Option Addr) (n:Nat) (c:World)=>ro_bin (c:=c) (a:=a) (n:=n) (l:=l3++secB v p.willProps) (s:=p.willTopic) (by omega) hR.willTopic
   have u3:=fun (a:Option Addr) (n:Nat) (c:World)=>ro_bin (c:=c) (a:=a) (n:=n) (l:=l3++secB v p.willProps++binBy p.willTopic) (s:=p.willLoad) (by omega) hR.willLoad
   rw[e];refine go ?_;refine vh [0] ?_;refine go ?_
   repeat' first
    | refine go ?_
    | refine vqx 0 ?_
    | refine vqr u1 fun y1 k1=>?_
    | refine vqr (u2 _ _ _) fun y2 k2=>?_
    | refine vqr (u3 _ _ _) fun y3 k3=>?_
    | fail
   exact vj y3 (((k4.trans k1).trans k2).trans k3)
  | false =>
   have e:l4=l3:=by rw[hl4,hw];simp
   rw[e];refine go ?_;exact vj y4 k4
 refine go ?_;refine vck (fun y:(Option Addr × Nat) × World=>[(0,.int .i64 v),(3,pt b0),(5,.slice y.1.1 l5.length y.1.2)]) (fun y=>y.2) (fun _=>[⟨b0,39,p.li s⟩]) (fun y=>[byR y.1.1 y.1.2 l5]) (fun y=>Le c y.2) ?_ fun y6 k6=>?_
 ·cases hw:p.hasUser with
  | true =>
   have e:l5=l4++binBy p.user:=by rw[hl5,hw];simp
   rw[e];refine go ?_;refine vtr (ro_bin (c:=y5.2) (a:=y5.1.1) (n:=y5.1.2) (l:=l4) (s:=p.user) (by omega) hR.user) fun y1 k1=>?_
   refine go ?_;exact vj y1 (k5.trans k1)
  | false =>
   have e:l5=l4:=by rw[hl5,hw];simp
   rw[e];refine go ?_;exact vj y5 k5
 refine go ?_;cases hw:p.hasPass with
 | true =>
  have e:l6=l5++binBy p.pass:=by rw[hl6,hw];simp
  rw[e];refine go ?_;refine vtr (ro_bin (c:=y6.2) (a:=y6.1.1) (n:=y6.1.2) (l:=l5) (s:=p.pass) (by omega) hR.pass) fun y1 k1=>?_
  refine go ?_;exact ved (vrt y1 (k6.trans k1))
 | false =>
  have e:l6=l5:=by rw[hl6,hw];simp
  rw[e];refine go ?_;exact ved (vrt y6 k6)
end
section
variable {c:World} {v:Int}
theorem len_by1 (l:List UInt8) (n:Nat):l.length+1=(l++by1 n).length:=by rw[List.length_append,b1_len]
theorem b8_by1 (l:List UInt8) (n:Nat) (h:n < 256):B8 l++[.int .u8 n]=B8 (l++by1 n):=by rw[B8_append,B8_by1 _ h]
theorem rn_beh (p:Pk) (s:Sl) (hp:p.At s c) (hn:s.ca=none→s.cc=0) (hF:Fit p) (hR:Ri v p) (hL:Lays9 v p) (hP:p.props.length≤1000) (hW:p.willProps.length≤1000) (hB:(behB v p).length≤50000):Rn 40 [.int .i64 v,p.val s] c (behB v p):=by
  have hid:=hF.id;have hcd:=hF.code;have hnf:=hR.nf;have b1:=ck_bit8 (c:=c) p.present 1;have hb1:bitN p.present 1≤1:=by unfold bitN;split<;>omega
  have e2:=oy_two (c:=c) (a:=none) (n:=0) (l:=[]) (x:=p.id) (.nil _ _) (fun _=>⟨rfl,rfl⟩) (by decide) hid;have eb:=oy_bin (c:=c) (a:=none) (n:=0) (l:=[]) (s:=p.topic) (.nil _ _) (fun _=>⟨rfl,rfl⟩) (by decide) hR.topic;rw[List.nil_append]at e2 eb;refine Tr.in Tryz.func40 ?_;refine go ?_;refine vA fun b0=>?_
  refine go ?_
  by_cases k1:p.kind=1
  · have e:behB v p=connB v p:=by rw[beh_kind,if_pos k1]
    rw[e]at hB ⊢;refine go ?_;refine vt0r (rn_con p s hp hF hR hL hP hW hB) fun y hy=>?_
    refine go ?_;exact ved (vrt y hy)
  by_cases k2:p.kind=2
  · have e:behB v p=(by1 (bitN p.present 1)++by1 p.code)++secB v p.props:=by rw[beh_kind,if_neg k1,if_pos k2]
    rw[e];refine go ?_;refine vh [0] ?_
    repeat' first
      | refine go ?_
      | refine vqx 0 ?_
      | refine vqA fun b9=>?_
      | fail
    refine vhbr (by1 (bitN p.present 1)++by1 p.code) ?_ (by rw[B8_append,B8_by1 _ (by omega),B8_by1 _ hcd];rfl) rfl (by simp[b1_len]);refine vqr (ro_sec (by simp[b1_len]) hp.hp hP hF.wf.p hL.p) fun y hy=>?_
    refine go ?_;exact ved (vrt y hy)
  by_cases k3:p.kind=3
  · obtain ⟨l1,hl1⟩:∃ l1,l1=binBy p.topic++(if p.qos=0 then [] else by2 p.id):=⟨_,rfl⟩
    have e:behB v p=l1++secB v p.props++p.load.data.toList:=by rw[beh_kind,if_neg k1,if_neg k2,if_pos k3,hl1];rfl
    have h9:p.load.data.toList.length=p.load.size:=by simp
    rw[e]at hB ⊢;have hB2:=hB;rw[List.length_append,List.length_append,h9]at hB2;have ht:(binBy p.topic).length≤50000:=by have:=congrArg List.length hl1;rw[List.length_append]at this;omega
    refine go ?_;refine vt0r eb fun y0 _=>?_
    refine go ?_;refine vck (fun y:(Option Addr × Nat) × World=>[(0,.int .i64 v),(3,pt b0),(5,.slice y.1.1 l1.length y.1.2)]) (fun y=>y.2) (fun _=>[⟨b0,39,p.li s⟩]) (fun y=>[byR y.1.1 y.1.2 l1]) (fun y=>Le c y.2) ?_ fun y1 k1=>?_
    · by_cases hq:p.qos=0
      · have e1:l1=binBy p.topic:=by rw[hl1,if_pos hq];simp
        rw[e1];refine go ?_;exact vj (y0,c) (Le.refl c)
      · have e1:l1=binBy p.topic++by2 p.id:=by rw[hl1,if_neg hq]
        rw[e1];refine go ?_;refine vtr (ro_two (by omega) hid) fun y hy=>?_
        refine go ?_;exact vj y hy
    refine go ?_;refine vh [0] ?_
    repeat' first
      | refine go ?_
      | refine vqx 0 ?_
      | refine vqr (ro_sec (c:=y1.2) (a:=y1.1.1) (n:=y1.1.2) (l:=l1) (m:=s.pc) (K:=p.props) (by omega) (hp.hp.le k1) hP hF.wf.p hL.p) fun y hy=>?_
      | refine vqgs (fun a' cp'=>?_) (hb:=by rw[List.length_append];omega)
      | fail
    have n1:(l1++secB v p.props).length+p.load.size=(l1++secB v p.props++p.load.data.toList).length:=by simp[List.length_append,Nat.add_assoc]
    rw[n1,← B8_append];exact ved (vrt ((a',cp'),y.2) (k1.trans hy))
  by_cases k4:p.kind=4∨p.kind=5∨p.kind=6∨p.kind=7
  · have e:behB v p=by2 p.id++shortB v p:=by rw[beh_kind,if_neg k1,if_neg k2,if_neg k3,if_pos k4]
    rw[e];have tc:=fun (a:Option Addr) (n:Nat)=>ro_code (c:=c) (v:=v) p s hp hF hL hP (a:=a) (n:=n) (l:=by2 p.id) (by rw[b2_len];omega)
    repeat' first|refine go ?_|refine vc (fun _=>?_) fun _=>?_|fail
    all_goals
      refine vh [0] ?_
      repeat' first
        | refine go ?_
        | refine vqx 0 ?_
        | refine vqt0r9 e2 fun y0 _=>?_
        | refine vqr (tc _ _) fun y hy=>?_
        | fail
      exact ved (vrt y hy)
  by_cases k14:p.kind=14∨p.kind=15
  · have e:behB v p=[]++shortB v p:=by rw[beh_kind,if_neg k1,if_neg k2,if_neg k3,if_neg k4,if_neg (by omega),if_neg (by omega),if_pos k14];rfl
    rw[e];have tc:=ro_code (c:=c) (v:=v) p s hp hF hL hP (a:=none) (n:=0) (l:=[]) (by decide)
    repeat' first|refine go ?_|refine vc (fun _=>?_) fun _=>?_|fail
    all_goals
      refine vnl 5 1 ?_;refine vtr tc fun y hy=>?_
      refine go ?_;exact ved (vrt y hy)
  by_cases k9:p.kind=9∨p.kind=11
  · have e:behB v p=by2 p.id++secB v p.props++p.codes:=by rw[beh_kind,if_neg k1,if_neg k2,if_neg k3,if_neg k4,if_neg (by omega),if_pos k9]
    rw[e]at hB ⊢;rw[List.length_append]at hB;have tc:=fun (a:Option Addr) (n:Nat)=>ro_sec (c:=c) (v:=v) (a:=a) (n:=n) (l:=by2 p.id) (m:=s.pc) (K:=p.props) (by rw[b2_len];omega) hp.hp hP hF.wf.p hL.p
    repeat' first|refine go ?_|refine vc (fun _=>?_) fun _=>?_|fail
    all_goals
      refine vh [0] ?_
      repeat' first
        | refine go ?_
        | refine vqx 0 ?_
        | refine vqt0r9 e2 fun y0 _=>?_
        | refine vqr (tc _ _) fun y hy=>?_
        | refine vqgr (hp.hc.le hy) hn (B8_one _) (fun a' cp'=>?_) (hb:=by omega)
        | fail
      have n1:(by2 p.id++secB v p.props).length+p.codes.length=(by2 p.id++secB v p.props++p.codes).length:=by simp[List.length_append,Nat.add_assoc]
      rw[n1,← B8_append];exact ved (vrt ((a',cp'),y.2) hy)
  by_cases k8:p.kind=8∨p.kind=10
  · obtain ⟨l0,hl0⟩:∃ l0,l0=by2 p.id++secB v p.props:=⟨_,rfl⟩
    have e:behB v p=l0++filtB p.kind p.filters:=by rw[beh_kind,if_neg k1,if_neg k2,if_neg k3,if_neg k4,if_pos k8,hl0]
    rw[e]at hB ⊢;rw[List.length_append]at hB;have tc:=fun (a:Option Addr) (n:Nat)=>ro_sec (c:=c) (v:=v) (a:=a) (n:=n) (l:=by2 p.id) (m:=s.pc) (K:=p.props) (by rw[b2_len];omega) hp.hp hP hF.wf.p hL.p
    repeat' first|refine go ?_|refine vc (fun _=>?_) fun _=>?_|fail
    all_goals
      refine vck (fun y:(Option Addr × Nat) × World=>[(0,.int .i64 v),(3,pt b0),(5,.slice y.1.1 l0.length y.1.2)]) (fun y=>y.2) (fun _=>[⟨b0,39,p.li s⟩]) (fun y=>[byR y.1.1 y.1.2 l0]) (fun y=>Le c y.2) ?_ fun y1 h1=>?_
      · subst hl0
        refine vh [0] ?_
        repeat' first
          | refine go ?_
          | refine vqx 0 ?_
          | refine vqt0r9 e2 fun y0 _=>?_
          | refine vqr (tc _ _) fun y hy=>?_
          | fail
        exact vj y hy
      refine go ?_;refine vlo (fun x:Nat × FoX × World=>[(0,.int .i64 v),(3,pt b0),(5,.slice x.2.1.a x.2.1.l.length x.2.1.cp),(6,.int .i64 x.1)]) (fun x=>x.2.2) (fun _=>[⟨b0,39,p.li s⟩]) (fun x=>[byR x.2.1.a x.2.1.cp x.2.1.l]) (fun x=>x.1≤p.filters.length∧Le c x.2.2∧x.2.1.l=l0++filtB p.kind (p.filters.take x.1)) (fun x=>p.filters.length - x.1) (0,⟨y1.1.1,y1.1.2,l0⟩,y1.2) ⟨Nat.zero_le _,h1,by simp[filtB]⟩ fun ⟨j,⟨a5,n5,x5⟩,c5⟩ ⟨j1,j2,j3⟩=>?_
      dsimp only at j1 j2 j3 ⊢;rcases Nat.lt_or_ge j p.filters.length with h|h
      · obtain ⟨b5,o5,hRt⟩:=(hp.hf.le j2).fi h
        have ho:=hF.opt _ (List.getElem_mem h);have hs:=hR.filt _ (List.getElem_mem h)
        have e1:filtB p.kind (p.filters.take (j+1))=filtB p.kind (p.filters.take j)++(binBy p.filters[j].text++if p.kind=8 then by1 p.filters[j].opt else []):=by
          rw[List.take_succ_eq_append_getElem h,filtB_app];simp[filtB]
        have hle:(filtB p.kind (p.filters.take j)).length≤(filtB p.kind p.filters).length:=by
          conv=>rhs;rw[← List.take_append_drop j p.filters,filtB_app,List.length_append]
          omega
        have hx:x5.length≤50000:=by rw[j3,List.length_append];omega
        refine go ?_;refine vtr (ro_bin (c:=c5) (a:=a5) (n:=n5) (l:=x5) (s:=p.filters[j].text) (by omega) hs) fun y hy=>?_
        obtain ⟨b6,o6,hR6⟩:=(hp.hf.le (j2.trans hy)).fi h
        first
          | (have q8:p.kind=8:=by omega
             rw[if_pos q8]at e1;refine go ?_;refine vA fun b9=>?_
             refine vgb (fun a' cp'=>?_) (hb:=by rw[List.length_append,binBy_len];omega);refine go ?_;refine ved ?_;have n1:(x5++binBy p.filters[j].text).length+1=(x5++binBy p.filters[j].text++by1 p.filters[j].opt).length:=len_by1 _ _;have n2:B8 (x5++binBy p.filters[j].text)++[.int .u8 p.filters[j].opt]=B8 (x5++binBy p.filters[j].text++by1 p.filters[j].opt):=b8_by1 _ _ ho;rw[n1,n2];exact vj (j+1,FoX.mk a' cp' (x5++binBy p.filters[j].text++by1 p.filters[j].opt),y.2) ⟨h,j2.trans hy,by dsimp only;rw[e1,j3];simp only[List.append_assoc]⟩)
          | (have q8:¬ p.kind=8:=by omega
             rw[if_neg q8,List.append_nil]at e1;refine go ?_;exact vj (j+1,FoX.mk y.1.1 y.1.2 (x5++binBy p.filters[j].text),y.2) ⟨h,j2.trans hy,by dsimp only;rw[e1,j3];simp only[List.append_assoc]⟩)
      · have e9:x5=l0++filtB p.kind p.filters:=by rw[j3,List.take_of_length_le h]
        refine go ?_;rw[← e9];exact ved (vrt ((a5,n5),c5) j2)
  · have e:behB v p=[]:=by rw[beh_kind,if_neg k1,if_neg k2,if_neg k3,if_neg k4,if_neg k8,if_neg k9,if_neg k14]
    rw[e];refine CG.nilr 5 1 ?_
    repeat' first|refine go ?_|refine vc (fun _=>?_) fun _=>?_|fail
    exact ved (vrt ((none,0),c) (Le.refl c))
theorem ownSl_c0 {p:Pk} {s:Sl} (h:s.ca=none→s.cc=0):(ownSl p s).ca=none→(ownSl p s).cc=0:=by
 unfold ownSl
 repeat' split
 all_goals first|exact h|exact fun _=>rfl
theorem tn_rEncode (p:Pk) (s:Sl) (hp:p.At s c) (hn:s.ca=none→s.cc=0) (hF:Fit p) (hr:rightP v p=true) (hL:Lays9 v p) (hP:p.props.length≤1000) (hW:p.willProps.length≤1000) (hB:(encL v p).length≤50000):Tn Tryz.prog 17 [.int .i64 v,p.val s] c (fun y:Option Addr × Nat=>.tuple #[.slice y.1 (encL v p).length y.2,.int .i64 0]) (fun y c'=>Own9 c' 5 y.1 (encL v p).length y.2 (B8 (encL v p))):=by
 have hR:=right_ri hr;have hfl:=flagsN_lt hR;have hk1:=hR.k1;have hk2:=hR.k2;have he:encL v p=by1 (16 * p.kind.toNat+flagsN p)++varL (behB v p).length++behB v p:=if_pos hr;rw[he]at hB ⊢;rw[List.length_append,List.length_append,b1_len]at hB;have cs:=ck_rSame p (bareP p) s (ownSl p s) hp (ownSl_at hp) hF.few (hR.bare▸hF.few) hn (ownSl_c0 hn);have cr:=ck_rRight v p s hp hF cs;rw[← right_eq v p hF.opt hR.rest,hr]at cr;have cf:=ck_Flags8 (c:=c) v p s hR;refine Tn.in Tryz.func17 ?_;refine go ?_;refine vA fun b0=>?_
 refine go ?_;refine vt0r (rn_beh p s hp hn hF hR hL hP hW (by omega)) fun y hy=>?_
 refine vlf9 fun c1 l1 o1=>?_
 have cf1:=cf.le (hy.trans l1);refine go ?_;refine vh [0] ?_
 repeat' first|refine go ?_|refine vqx 0 ?_|refine vqA fun b9=>?_|fail
 refine vhfb fun c2 l2 r2=>?_
 rw[show 16 * p.kind+((flagsN p:Nat):Int)=((16 * p.kind.toNat+flagsN p:Nat):Int) by omega,← B8_by1 (16 * p.kind.toNat+flagsN p) (by omega)]at r2;refine vqt0r9 (oy_var (n:=1) (l:=by1 (16 * p.kind.toNat+flagsN p)) (x:=(behB v p).length) r2 (fun h=>by cases h) (by rw[b1_len];decide) (by omega)) fun z _=>?_
 have r1:=o1.row.le l2;have n1:=o1.nil;refine vqgr r1 n1 (B8_one _) (fun a' cp'=>?_) (hb:=by rw[List.length_append,b1_len];omega);refine go ?_;rw[← B8_append];refine vef9 fun c3 l3 o3=>?_
 rw[show (by1 (16 * p.kind.toNat+flagsN p)++varL (behB v p).length).length+(behB v p).length=(by1 (16 * p.kind.toNat+flagsN p)++varL (behB v p).length++behB v p).length from List.length_append.symm]at o3 ⊢;exact ved (vrn2 ((a',cp'),c3) ⟨((hy.trans l1).trans l2).trans l3,o3⟩)
end
end Go.Proofs.YtohmcfmcbibbcaaGreatDoor
