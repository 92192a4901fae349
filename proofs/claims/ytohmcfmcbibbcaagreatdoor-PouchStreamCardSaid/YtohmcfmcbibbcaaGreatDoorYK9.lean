import Derived.Test.YtohmcfmcbibbcaaGreatDoorYK4
import Derived.Test.YtohmcfmcbibbcaaGreatDoorYI3
import Derived.Test.YtohmcfmcbibbcaaGreatDoorYK6
namespace Go.Proofs.YtohmcfmcbibbcaaGreatDoor
open Go.RowKit
set_option linter.unusedVariables false
set_option linter.unusedSimpArgs false
set_option maxRecDepth 100000
set_option maxHeartbeats 8000000
section
variable {P:Program} {ops:Array Oper} {Q:Kn} {rest:List Oper} {N n:Nat} {L:List (Nat × Value)} {c:World} {M:List Bl} {R:List Rwv} {ty:TypeId} {ps:String} {af:Array Edge} {gd:Option (Nat × Bool)} {x y:Operand}
theorem vmx {k:IntKind} {p q:Int} {ats:Array TypeId} (kk:LG P ops Q rest N ((n,.int k (max p q)) :: L) c M R) (hx:lko L x=some (.int k p):=by rfl) (hy:lko L y=some (.int k q):=by rfl) (hw:wtd ops L gd=some true:=by rfl) (hn:Nat.blt n N=true:=by rfl) :
  LG P ops Q (⟨some n,.call { callee:=.builtin .max,args:=#[x,y],argTypes:=ats },ty,ps,af,gd⟩ :: rest) N L c M R:=kk.do_ (fun κ a w F S=>ex_builtin (l:=[x,y]) rfl (gx_l1 (F.v hx) (gx_l1 (F.v hy) gx_l0)) (fun cs=>by
  simp only[builtin];have e:(if q > p then q else p)=max p q:=by split<;>omega
  exact gx_val (by rw[← e];exact run_max_int2 _ _ _ _ _ _ _))) hw hn
end
structure PstX where
 had:List RIt
 ha:Option Addr
 hc:Nat
 i:Nat
 S:Fs
 fa:Option Addr
 fc:Nat
 c:World
section
variable {c:World}
theorem ck_PouchStream (hT:Tabs c) {v most:Int} {ab:Option Addr} {nb:Nat} {bs:List UInt8} (hb:Row c ab (B8 bs)) (hbn:ab=none→nb=0) (hbl:bs.length≤nb):Ck Tryz.prog 6 [.int .i64 v,.slice ab bs.length nb,.int .i64 most] c (.bool true):=by
 have hV:4+v % 18446744073709551616 % 2=4∨4+v % 18446744073709551616 % 2=5:=by omega
 have cv:=ck_version (c:=c) v;generalize 4+v % 18446744073709551616 % 2=V at *;have hM:2≤2+most % 18446744073709551616 % 500:=by omega
 have hM2:2+most % 18446744073709551616 % 500≤2400:=by omega
 refine Ck.in Tryz.func6 ?_;refine go ?_;generalize 2+most % 18446744073709551616 % 500=M at *;refine vmi ?_;refine vslt fun al h1 h2=>?_
 have hq:(min (bs.length:Int) 600).toNat=(bs.take (min (bs.length:Int) 600).toNat).length:=by rw[List.length_take];omega
 have hq2:(bs.take (min (bs.length:Int) 600).toNat).length≤600:=by rw[← hq];omega
 have hq3:(bs.take (min (bs.length:Int) 600).toNat).length≤nb:=by rw[← hq];omega
 refine vle (v':=.slice al (bs.take (min (bs.length:Int) 600).toNat).length nb) (by rw[← hq]) ?_;generalize bs.take (min (bs.length:Int) 600).toNat=l at *;clear hq;refine go ?_;refine vta (M1:=[]) (R1:=[]) (tr_New (fst:=true) hV hM) fun g _=>?_
 refine go ?_;refine vpz ?_;refine go ?_;refine vtn (tn_alive hT) fun _ c0 l0 _=>?_
 refine go ?_;refine CG.nilr 56 26 ?_;refine CG.permr ?_ (List.perm_append_comm (l₁:=[_]) (l₂:=[_]))
 refine vlo (fun y:PstX=>[(1,.slice al l.length nb),(7,.int .i64 V),(8,.int .i64 M),(9,pt g),(11,.slice y.ha y.had.length y.hc),(12,.int .i64 y.S.e),(13,.int .i64 y.i)]) (fun y=>y.c) (fun y=>[frB g V M y.S.fst (.slice y.fa y.S.h.length y.fc) y.S.e]) (fun y=>[byR y.fa y.fc y.S.h,⟨56,26,.slice y.ha y.had.length y.hc,y.had.length,RC y.had⟩]) (fun y=>Le c0 y.c∧feedS V M ⟨true,[],0⟩ (l.take y.i)=(y.had.map RIt.pb,y.S)∧(∀ q∈y.had,q.At y.c∧q.p.few)∧y.i≤l.length) (fun y=>l.length - y.i) ⟨[],none,0,0,⟨true,[],0⟩,none,0,c0⟩ ⟨Le.refl c0,feedS_nil0 V M true,by simp,Nat.zero_le _⟩ fun y ⟨y1,y2,y3,y4⟩=>?_
 have p1:=feedS_len V M ⟨true,[],0⟩ (l.take y.i);have p2:=feedS_hold V M ⟨true,[],0⟩ (l.take y.i);have p3:=feedS_wt y2 (wt_start V M true);have p4:=wt_len p3;rw[y2]at p1 p2;have p5:(l.take y.i).length=y.i:=by rw[List.length_take];omega
 dsimp only [List.length_nil]at p1 p2;rw[List.length_map]at p1;have hT1:=hT.le (l0.trans y1);have h1':=h1.le (l0.trans y1);rcases Nat.lt_or_ge y.i l.length with i1|i1
 ·refine go ?_
  refine vsl fun a2 h3 h4=>?_
  have e1:((y.i:Int)+1).toNat - (y.i:Int).toNat=1:=by omega
  have e2:(y.i:Int).toNat=y.i:=by omega
  rw[e1,e2]at h3;have e3:l.take (y.i+1)=l.take y.i++(l.drop y.i).take 1:=List.take_add;have e4:((l.drop y.i).take 1).length=1:=by rw[List.length_take,List.length_drop];omega
  rw[e1];generalize (l.drop y.i).take 1=bs at *;refine vle (v':=.slice a2 bs.length (nb - (y.i:Int).toNat)) (by rw[e4]) ?_;have f1:=tr_Feed (S:=y.S) (v:=V) (m:=M) (g:=g) (a:=y.fa) (cp:=y.fc) hT1 h3 h4 (by omega);have z1:=feedS_app V M ⟨true,[],0⟩ (l.take y.i) bs;rw[y2,← e3]at z1;dsimp only at z1;have w1:=feedS_few (v:=V) (m:=M) (S:=y.S) (b:=bs) (by omega);have w2:=feedS_len V M y.S bs;have w5:((feedS V M y.S bs).2.h.length:Int)≤max M 4:=wt_len (feedS_wt (I:=(feedS V M y.S bs).1) (S':=(feedS V M y.S bs).2) rfl p3);generalize hS2:feedS V M y.S bs=S2 at *;refine vt11 f1 fun x2 ⟨m1,m2,m3,m4,m5⟩=>?_
  have w3:x2.L.length=S2.1.length:=by rw[← m2,List.length_map]
  refine go ?_;refine vtn (tn_From10 m4 (fun t ht=>⟨m3 t ht,w1 _ (by rw[← m2];exact List.mem_map_of_mem ht)⟩) (by omega)) fun x3 c4 a1 ⟨a2',a3,a4⟩=>?_
  have w4:x3.1.length=S2.1.length:=by rw[← w3];simpa using congrArg List.length a2'
  refine LG.permr ?_ (List.Perm.swap _ _ _)
  refine vgr a4.row a4.nil (RC_oneF _) (fun ha' hc'=>?_) (hl:=RC_lenF _) (hb:=by omega);have r4:y.had.length+x3.1.length=(y.had++x3.1).length:=by rw[List.length_append]
  have r5:RC y.had++RC x3.1=RC (y.had++x3.1):=by unfold RC;rw[List.flatMap_append]
  rw[r4,r5];have u1:(y.had++x3.1).map RIt.pb=y.had.map RIt.pb++S2.1:=by rw[List.map_append,a2',m2]
  have u2:∀ t∈y.had++x3.1,t.At c4∧t.p.few:=by
   intro t ht;rcases List.mem_append.1 ht with ht|ht
   ·exact ⟨(y3 t ht).1.le (m1.trans a1),(y3 t ht).2⟩
   ·refine ⟨a3 t ht,?_⟩
    have:t.pb∈S2.1:=by rw[← m2,← a2'];exact List.mem_map_of_mem ht
    exact w1 _ this
  generalize y.had++x3.1=hd at *;refine go ?_;refine vt1a tr_Held fun _ _=>?_
  refine go ?_;refine vmx ?_;refine go ?_;refine EG.permr ?_ (List.Perm.swap _ _ _)
  have r6:(y.i:Int)+1=((y.i+1:Nat):Int):=by omega
  rw[r6];exact vj (PstX.mk hd ha' hc' (y.i+1) S2.2 x2.a x2.cp c4) ⟨(y1.trans m1).trans a1,by rw[z1,u1],u2,i1⟩ (hμ:=by dsimp only;omega)
 ·have e1:l.take y.i=l:=List.take_of_length_le i1
  rw[e1,feedS_start]at y2;have k1:(feedG V M l.length true l).2.2=y.S.e:=congrArg (fun q=>q.2.e) y2;have k2:(feedG V M l.length true l).2.1.length=y.S.h.length:=congrArg (fun q=>q.2.h.length) y2;have k3:(feedG V M l.length true l).1=y.had.map RIt.pb:=congrArg (fun q=>q.1) y2;refine go ?_;refine vtn (tn_Parse (v:=V) (m:=M) (F:=true) hT1 h1' h2 hq3 (by omega) hM2) fun q c3 n1 ⟨n2,n3,n4,n5⟩=>?_
  rw[k1,k2];have u4:y.had.map RIt.pb=q.1.map RIt.pb:=by rw[n2,k3]
  have u2:∀ t∈y.had,t.At c3∧t.p.few:=fun t ht=>⟨(y3 t ht).1.le n1,(y3 t ht).2⟩
  have u5:∀ t∈q.1,t.At c3∧t.p.few:=fun t ht=>⟨(n3 t ht).1,by
   have:t.pb∈y.had.map RIt.pb:=by rw[u4];exact List.mem_map_of_mem ht
   obtain ⟨t9,h8,h9⟩:=List.mem_map.1 this
   have:=(u2 t9 h8).2
   rw[show t9.p=t.p from congrArg Prod.fst h9]at this;exact this⟩
  have u3:y.had.length≤100000:=by omega
  have u6:q.1.length≤100000:=by have:=congrArg List.length u4;rw[List.length_map,List.length_map]at this;omega
  refine go ?_;refine LG.permr ?_ (List.Perm.swap _ _ _)
  refine vkl (v:=.bool true) (fun c' l9 o9=>by
   have:=ck_rSame10 (n:=y.hc) (m:=q.2.2) o9.row (n4.row.le l9) (fun t ht=>⟨(u2 t ht).1.le l9,(u2 t ht).2⟩) (fun t ht=>⟨(u5 t ht).1.le l9,(u5 t ht).2⟩) u3 u6
   rwa [decide_eq_true u4]at this) ?_
  refine go ?_;refine vt1a tr_Held fun _ _=>?_
  refine go ?_;refine vrb ?_;exact decide_eq_true rfl
end
theorem pouchStream_full (v:Int) (a1:Option Addr) (len1 cap1:Nat) (z1:List Int) (n:Int) (w:World) (w0:(Lit.int .i64 v).wf=true) (w1:IsRow .u8 w a1 len1 cap1 z1) (w2:(Lit.int .i64 n).wf=true) (hT:Tabs w) :
  Calls Tryz.prog 6 #[.int .i64 v,.slice a1 len1 cap1,.int .i64 n] w fun e w'=>e=.returned (.bool true)∧Below w.heap.size w w':=by
 obtain ⟨bs,hl,hr,hn,hc⟩:=row_u8 w1;subst hl;exact ((ck_PouchStream (c:=w) hT (v:=v) (most:=n) hr hn hc).h w (Le.refl w)).mono fun e w' h=>⟨h.1,h.2.below (Nat.le_refl _) (fun _ _=>id)⟩
end Go.Proofs.YtohmcfmcbibbcaaGreatDoor
