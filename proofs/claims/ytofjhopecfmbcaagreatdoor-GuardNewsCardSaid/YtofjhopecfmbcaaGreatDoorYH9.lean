import Derived.Test.YtofjhopecfmbcaaGreatDoorYH6
import Derived.Test.YtofjhopecfmbcaaGreatDoorYF1
import Derived.Test.YtofjhopecfmbcaaGreatDoorYH8
import Derived.Test.YtofjhopecfmbcaaGreatDoorYFS
import Derived.Test.YtofjhopecfmbcaaGreatDoorYF8
namespace Go.Proofs.YtofjhopecfmbcaaGreatDoor
open Go.RowKit
set_option linter.unusedVariables false
set_option linter.unusedSimpArgs false
set_option maxRecDepth 100000
theorem hd_flags (l:List UInt8):(headB l).flags < 16:=by
 unfold headB
 split
 ·exact Nat.mod_lt _ (by decide)
 ·decide
theorem hd_head (l:List UInt8):0≤(headB l).head∧(headB l).head≤5:=by
 unfold headB
 split
 ·have h1:=(rv_suf 4 0 0 (leftL 1 (l.take 5) 0) (leftE 1 (l.take 5) 0)).length_le
  have h2:=leftL_le 1 (l.take 5) 0;have h3:(l.take 5).length≤5:=by rw[List.length_take];omega
  unfold headS;dsimp only;omega
 ·exact ⟨Int.le_refl _,by decide⟩
theorem hd_rest (l:List UInt8):(headB l).rest < 268435456:=by
 unfold headB
 split
 ·exact rv_lt 4 0 0 _ _ (by decide)
 ·decide
def nextN (l:List UInt8):Nat:=((headB l).head+((headB l).rest:Int)).toNat
def nextE (v m:Int) (fst:Bool) (l:List UInt8):Int :=
 if headE l≠0 then headE l
 else if m < (headB l).head+((headB l).rest:Int) then 5
 else if fst=true∧(headB l).kind≠1 then 6
 else if (l.length:Int) < (headB l).head+((headB l).rest:Int) then 2
 else decE v (l.take (nextN l))
def feedG (v m:Int):Nat→Bool→List UInt8→List (Pk × List UInt8) × List UInt8 × Int
 | 0,_,l=>([],l,0)
 | n+1,fst,l=>if nextE v m fst l=0 then ((decP v (l.take (nextN l)),l.take (nextN l)) :: (feedG v m n false (l.drop (nextN l))).1,(feedG v m n false (l.drop (nextN l))).2)
   else if nextE v m fst l=2 then ([],l,0) else ([],[],nextE v m fst l)
structure Fs where
 fst:Bool
 h:List UInt8
 e:Int
def feedS (v m:Int) (S:Fs) (b:List UInt8):List (Pk × List UInt8) × Fs :=
 if S.e≠0 then ([],S) else ((feedG v m (S.h++b).length S.fst (S.h++b)).1,⟨S.fst&&(feedG v m (S.h++b).length S.fst (S.h++b)).1.isEmpty,(feedG v m (S.h++b).length S.fst (S.h++b)).2.1,(feedG v m (S.h++b).length S.fst (S.h++b)).2.2⟩)
theorem headE_nil:headE []=2:=by decide +kernel
theorem decE_nil (v:Int):decE v []≠0:=by
 have h:formOk v []=false:=by
  unfold formOk;rw[headE_nil]
  rfl
 unfold decE;rw[h]
 split
 ·rw[if_neg (by decide)];decide
 ·decide
theorem next_is {v m:Int} {fst:Bool} {l:List UInt8} (h:nextE v m fst l=0):headE l=0∧(headB l).head+((headB l).rest:Int)≤m∧¬ (fst=true∧(headB l).kind≠1)∧(headB l).head+((headB l).rest:Int)≤(l.length:Int)∧decE v (l.take (nextN l))=0:=by
 unfold nextE at h
 split at h
 ·rename_i h1;exact absurd h h1
 split at h
 ·cases h
 split at h
 ·cases h
 split at h
 ·cases h
 ·rename_i h1 h2 h3 h4
  exact ⟨by simpa using h1,by omega,h3,by omega,h⟩
theorem nextN_lt {v m:Int} {fst:Bool} {l:List UInt8} (h:nextE v m fst l=0):1≤nextN l∧nextN l≤l.length:=by
 obtain ⟨_,_,_,h4,h5⟩:=next_is h;refine ⟨?_,by unfold nextN;omega⟩
 by_cases h0:nextN l=0
 ·rw[h0,List.take_zero]at h5
  exact absurd h5 (decE_nil v)
 ·omega
theorem nextE_nil {v m:Int} {fst:Bool}:nextE v m fst []=2:=by
 unfold nextE;rw[if_pos (by rw[headE_nil];decide),headE_nil]
theorem feedG_go {v m:Int} {fst:Bool} {l:List UInt8} {n:Nat} (h:nextE v m fst l=0):feedG v m (n+1) fst l=((decP v (l.take (nextN l)),l.take (nextN l)) :: (feedG v m n false (l.drop (nextN l))).1,(feedG v m n false (l.drop (nextN l))).2):=if_pos h
section
variable {v mm:Int} {fst:Bool} {l b:List UInt8}
end
set_option maxHeartbeats 8000000
section
variable {c:World} {t r:Nat} {v:Int} {a:Option Addr} {cp:Nat} {s:Ts}
theorem tn_grown {n:Nat} {a:Option Addr} {l:List UInt8} (hr:Row c a (B8 l)) (hn:a=none→n=0) (hl:l.length≤140737000000000):By 70 [.slice a l.length n,.int .i64 0] c l:=OwnB.tn Tryz.func70 fun w k=>(grown_any a n l 0 w (by omega) (hr.le k) (row_none hr hn) (by omega)).mono fun e w' ⟨g,h1,h2,h3,h4⟩=>⟨some ⟨g,0,none⟩,_,h1,h3,h4⟩
structure RdX where
 r:Nat
 a:Option Addr
 cp:Nat
 c:World
theorem tr_Read {n:Nat} {a:Option Addr} {l:List UInt8} (hr:Row c a (B8 l)) (hn:a=none→n=0) (hl:l.length≤140737000000000):Tr Tryz.prog 49 [.slice a l.length n] c [] [] (fun x:RdX=>pt x.r) (fun x=>x.c) (fun x=>[rdB x.r x.a l.length x.cp 0]) (fun _=>[]) (fun x=>Le c x.c∧RdK x.c x.a x.cp l 0):=by
 refine Tr.in Tryz.func49 ?_;refine go ?_;refine vtn (tn_grown hr hn hl) fun x c' hl' hx=>?_
 refine go ?_;refine vA fun b=>?_
 refine go ?_;exact vrt (RdX.mk b x.1 x.2 c') ⟨hl',hx.row,fun b off h1 h2=>(hx.typ (by cases l<;>simp_all [B8]) b off h1).imp fun cs h=>⟨_,h⟩,hx.le,hx.nil,hl,fun h=>absurd rfl h⟩
def Hd.val (h:Hd):Value:=.agg #[.int .i64 h.kind,.int .u8 h.flags,.int .i64 h.head,.int .i64 h.rest]
theorem headS_lt (l:List UInt8):(headS l).1 < 4294967296:=by have:=rv_lt 4 0 0 (leftL 1 l 0) (leftE 1 l 0) (by decide);unfold headS;omega
theorem take5 (l:List UInt8):l.take (min (l.length:Int) 5).toNat=l.take 5∧(min (l.length:Int) 5).toNat=(l.take 5).length:=by
 have h:(min (l.length:Int) 5).toNat=min 5 l.length:=by omega
 rw[h,List.length_take];refine ⟨?_,rfl⟩;rcases Nat.le_total 5 l.length with h|h
 ·rw[Nat.min_eq_left h]
 ·rw[Nat.min_eq_right h,List.take_of_length_le (Nat.le_refl _),List.take_of_length_le h]
theorem ck_Head {n:Nat} {a:Option Addr} {l:List UInt8} (hr:Row c a (B8 l)) (hn:a=none→n=0) (hl:l.length≤n):Ck Tryz.prog 35 [.slice a l.length n] c (.tuple #[(headB l).val,.int .i64 (headE l)]):=by
 obtain ⟨t1,t2⟩:=take5 l;have t3:(l.take 5).length≤5:=by rw[List.length_take];omega
 have m1:=num_le 1 (l.take 5) 0 1 (by omega);refine Ck.in Tryz.func35 ?_;refine go ?_;refine vA fun b0=>?_
 refine go ?_;refine vmi ?_;refine vslt fun a' h1 h2=>?_
 rw[t1]at h1;rw[t2];refine go ?_;refine vt0m (tr_Read h1 h2 (by omega)) fun x h3=>?_
 refine go ?_;refine vt1a (tr_byte h3.2) fun y h4=>?_
 refine go ?_;refine vt1a (tr_rvar h4) fun z h5=>?_
 refine go ?_;refine vkc (kr_err h5 (.head _)) ?_;have e1:headE l=(headS (l.take 5)).2.2:=rfl;have e2:rv 4 0 0 (leftL 1 (l.take 5) 0) (leftE 1 (l.take 5) 0)=headS (l.take 5):=rfl;rw[e2]at h5 ⊢;have m2:=headS_lt (l.take 5)
 by_cases he:(headS (l.take 5)).2.2=0
 ·have e3:headB l=⟨((num (taken 1 (l.take 5) 0) / 16:Nat):Int),num (taken 1 (l.take 5) 0) % 16,((l.take 5).length:Int) - ((headS (l.take 5)).2.1.length:Int),(headS (l.take 5)).1⟩:=if_pos he
  have m3:(headS (l.take 5)).2.1.length≤5:=Nat.le_trans (Nat.le_trans (rv_suf 4 0 0 _ _).length_le (leftL_le _ _ _)) t3;refine go ?_;refine vkc (kr_left h5 (.head _)) ?_;refine go ?_;exact vrv2 (by rw[e1,e3,he];try rfl)
 ·have e3:headB l=⟨0,0,0,0⟩:=if_neg he
  refine go ?_;refine vkc (kr_err h5 (.head _)) ?_;refine go ?_;exact vrv2 (by rw[e1,e3];try rfl)
abbrev sl0:Sl:=⟨none,0,none,0,none,0,none,0⟩
theorem at0 (k:Int) (c:World):(zk k).At sl0 c:=⟨.nil _ _,.nil _ _,.nil _ _,.nil _ _⟩
theorem tr_fields (hT:Tabs c) {k:Int} {f m:Nat} {hd:Int} (hf:f < 256) (h:RdK c a cp s.l s.e) (hl:s.l.length≤100000):Tr Tryz.prog 74 [pt t,.agg #[.int .i64 k,.int .u8 f,.int .i64 hd,.int .i64 m]] c [tkB t v r s.b,rdB r a s.l.length cp s.e] [] (fun x:TpX=>(fieldsK v k f s).1.val x.sl) (fun x=>x.c) (fun x=>[tkB t v r (fieldsK v k f s).2.b,rdB r x.a (fieldsK v k f s).2.l.length x.cp (fieldsK v k f s).2.e]) (fun _=>[])
  (fun x=>Le c x.c∧RdK x.c x.a x.cp (fieldsK v k f s).2.l (fieldsK v k f s).2.e∧(fieldsK v k f s).1.At x.sl x.c∧(x.sl.ca=none→x.sl.cc=0)):=by
 refine Tr.in Tryz.func74 ?_;refine go ?_;refine vA fun b1=>?_
 refine vA fun b2=>?_
 refine go ?_;refine vA fun b3=>?_
 refine LG.perm ?_ (List.perm_append_comm (l₁:=[_,_,_]) (l₂:=[_,_]))
 refine gob ?_;refine vck (fun _=>[(4,pt b2),(5,pt b3)]) (fun x:TpX=>x.c) (fun x=>[tkB t v r (fieldsK v k f s).2.b,rdB r x.a (fieldsK v k f s).2.l.length x.cp (fieldsK v k f s).2.e,pkB b3 (fieldsK v k f s).1 x.sl,⟨b2,61,(zk 0).li sl0⟩,⟨b1,86,[.int .i64 k,.int .u8 f,.int .i64 hd,.int .i64 m]⟩]) (fun _=>[]) (fun x=>Le c x.c∧RdK x.c x.a x.cp (fieldsK v k f s).2.l (fieldsK v k f s).2.e∧(fieldsK v k f s).1.At x.sl x.c∧(x.sl.ca=none→x.sl.cc=0)) ?_ fun x hx=>?_
 ·have n1:=rd_len 2 s
  by_cases k1:k=1
  ·subst k1
   refine go ?_;refine vt30 (tp_connect hT h hl (at0 1 c) (fun _=>rfl)) fun x hx=>?_
   refine go ?_;exact vj x hx
  by_cases k2:k=2
  ·subst k2
   refine go ?_;refine vt30 (tp_connack hT h hl (at0 2 c) (fun _=>rfl)) fun x hx=>?_
   refine go ?_;exact vj x hx
  by_cases k3:k=3
  ·subst k3
   refine go ?_;refine vt30 (tp_publish hT hf h hl (at0 3 c) (fun _=>rfl)) fun x hx=>?_
   refine go ?_;exact vj x hx
  by_cases k4:k=4∨k=5∨k=6∨k=7
  ·have e:fieldsK v k f s=shortK v { zk k with id:=s.num 2 } (s.rd 2):=by simp[fieldsK,k1,k2,k3,k4]
   rw[e]
   repeat' first|refine go ?_|refine vc (fun _=>?_) fun _=>?_|fail
   all_goals
    refine vt1b (tr_two h) fun y hy=>?_
    refine go ?_;refine vt30 (tp_short (s:=s.rd 2) (p:={ zk k with id:=s.num 2 }) (sl:=sl0) hT hy (by omega) ⟨.nil _ _,.nil _ _,.nil _ _,.nil _ _⟩ (fun _=>rfl)) fun x hx=>?_
    refine go ?_;exact vj x hx
  by_cases k8:k=8∨k=10
  ·have e:fieldsK v k f s=({ zk k with id:=s.num 2,props:=(s.rd 2).sec v,filters:=(filtK k ((s.rd 2).rdS v).l.length ((s.rd 2).rdS v)).1 },(filtK k ((s.rd 2).rdS v).l.length ((s.rd 2).rdS v)).2):=by simp[fieldsK,k1,k2,k3,k4,k8]
   have n2:=rdS_len v (s.rd 2);rw[e]
   repeat' first|refine go ?_|refine vc (fun _=>?_) fun _=>?_|fail
   all_goals
    refine vt1b (tr_two h) fun y hy=>?_
    refine go ?_;refine vt20 (tr_sec (s:=s.rd 2) hT hy (by omega)) fun z hz=>?_
    have hT2:=hT.le hz.1;refine go ?_;refine vt20 (tp_filters (s:=(s.rd 2).rdS v) hT2 hz.2.1 (by omega)) fun x hx=>?_
    refine go ?_;exact vj (TpX.mk x.a x.cp { sl0 with pa:=z.b,pc:=z.bp,fa:=x.b,fc:=x.bp } x.c) ⟨hz.1.trans hx.1,hx.2.1,⟨.nil _ _,hx.2.2.1,.nil _ _,hz.2.2.1.le hx.1⟩,fun _=>rfl⟩
  by_cases k9:k=9∨k=11
  ·have e:fieldsK v k f s=({ zk k with id:=s.num 2,props:=(s.rd 2).sec v,codes:=((s.rd 2).rdS v).l },((s.rd 2).rdS v).rdR):=by simp[fieldsK,k1,k2,k3,k4,k8,k9]
   rw[e]
   repeat' first|refine go ?_|refine vc (fun _=>?_) fun _=>?_|fail
   all_goals
    refine vt1b (tr_two h) fun y hy=>?_
    refine go ?_;refine vt20 (tr_sec (s:=s.rd 2) hT hy (by omega)) fun z hz=>?_
    refine go ?_;refine vt1b (tr_rest hz.2.1) fun x hx=>?_
    refine vsb fun c' a' cp' h1 h2 h3 h4=>?_
    refine go ?_;exact vj (TpX.mk x.1 x.2 { sl0 with pa:=z.b,pc:=z.bp,ca:=a',cc:=cp' } c') ⟨hz.1.trans h1,hx.le9 h1,⟨.nil _ _,.nil _ _,h2,hz.2.2.1.le h1⟩,h3⟩
  by_cases k14:k=14∨k=15
  ·have e:fieldsK v k f s=shortK v (zk k) s:=by simp[fieldsK,k1,k2,k3,k4,k8,k9,k14]
   rw[e]
   repeat' first|refine go ?_|refine vc (fun _=>?_) fun _=>?_|fail
   all_goals
    refine vt30 (tp_short (p:=zk k) (sl:=sl0) hT h hl (at0 k c) (fun _=>rfl)) fun x hx=>?_
    refine go ?_;exact vj x hx
  ·have e:fieldsK v k f s=(zk k,s):=by simp[fieldsK,k1,k2,k3,k4,k8,k9,k14]
   rw[e]
   repeat' first|refine go ?_|refine vc (fun _=>?_) fun _=>?_|fail
   exact vj (TpX.mk a cp sl0 c) ⟨Le.refl c,h,at0 k c,fun _=>rfl⟩
 ·refine go ?_
  refine LG.perm ?_ (List.perm_append_comm (l₁:=[_,_,_]) (l₂:=[_,_]))
  refine go ?_;refine EG.perm ?_ (List.perm_append_comm (l₁:=[_,_]) (l₂:=[_,_,_]))
  exact vrtb (M2:=[_,_,_]) (R2:=[]) x hx
end
theorem formP_no {v:Int} {l:List UInt8} (h:formOk v l=false):formP v l=zk 0:=if_neg (by rw[h];decide)
section
variable {c:World} {v:Int}
theorem tn_Form (hT:Tabs c) {n:Nat} {a:Option Addr} {l:List UInt8} (hr:Row c a (B8 l)) (hn:a=none→n=0) (hl:l.length≤n) (h5:l.length≤100000):Tn Tryz.prog 55 [.int .i64 v,.slice a l.length n] c (fun x:Sl=>.tuple #[(formP v l).val x,.bool (formOk v l)]) (fun x c'=>(formP v l).At x c'∧(x.ca=none→x.cc=0)):=by
 have c1:=ck_Head hr hn hl;have c2:=ck_headRight (c:=c) v (headB l);have f1:=hd_flags l;have f2:=hd_head l;have f3:=hd_rest l;refine Tn.in Tryz.func55 ?_
 by_cases h1:headE l=0
 case neg =>
  have e:formOk v l=false:=by simp[formOk,h1]
  rw[e,formP_no e];refine go ?_;refine vA fun b1=>?_
  refine go ?_;refine vA fun b2=>?_
  refine go ?_;exact vrn2 (sl0,c) ⟨Le.refl c,at0 0 c,fun _=>rfl⟩
 by_cases h2:(l.length:Int)=(headB l).head+(headB l).rest
 case neg =>
  have e:formOk v l=false:=by simp[formOk,h2]
  rw[e,formP_no e];refine go ?_;refine vA fun b1=>?_
  refine go ?_;refine vA fun b2=>?_
  refine go ?_;exact vrn2 (sl0,c) ⟨Le.refl c,at0 0 c,fun _=>rfl⟩
 cases h3:headOk v (headB l) with
 | false =>
  have e:formOk v l=false:=by simp[formOk,h3]
  rw[h3]at c2;rw[e,formP_no e];refine go ?_;refine vA fun b1=>?_
  refine go ?_;refine vA fun b2=>?_
  refine go ?_;exact vrn2 (sl0,c) ⟨Le.refl c,at0 0 c,fun _=>rfl⟩
 | true =>
  rw[h3]at c2;have e0:formOk v l=((formS v l).2.ok&&decide ((formS v l).2.l.length=0)):=by simp[formOk,h1,h2,h3]
  have eS:formS v l=fieldsK v (headB l).kind (headB l).flags ⟨l.drop (headB l).head.toNat,0,false⟩:=rfl;have t1:(l.drop (headB l).head.toNat).take (l.length - (headB l).head.toNat)=l.drop (headB l).head.toNat:=List.take_of_length_le (by rw[List.length_drop];omega);have t2:l.length - (headB l).head.toNat=(l.drop (headB l).head.toNat).length:=by rw[List.length_drop]
  refine go ?_;refine vA fun b1=>?_
  refine go ?_;refine vA fun b2=>?_
  refine go ?_;refine vslf fun a' g1 g2=>?_
  rw[t1]at g1;rw[t2];refine vt0m (tr_Read g1 g2 (by rw[List.length_drop];omega)) fun x g3=>?_
  have hT2:=hT.le g3.1;refine go ?_;refine vA fun b3=>?_
  refine go ?_;refine vt20 (tr_fields (s:=⟨l.drop (headB l).head.toNat,0,false⟩) (k:=(headB l).kind) (f:=(headB l).flags) (hd:=(headB l).head) (m:=(headB l).rest) hT2 (by omega) g3.2 (by dsimp only;rw[List.length_drop];omega)) fun y g4=>?_
  rw[← eS]at g4 ⊢;have g5:=g3.1.trans g4.1;generalize eK:formS v l=K at *;refine LG.drop ?_ (List.perm_middle (l₁:=[_,_]))
  refine vA fun b4=>?_
  refine go ?_;have m1:=tr_ok (t:=b3) (v:=v) (r:=x.r) (s:=K.2) g4.2.1;refine LG.perm ?_ (List.perm_append_comm (l₁:=[_]) (l₂:=[_,_,_]))
  by_cases k1:K.2.ok=true
  ·rw[k1]at m1
   refine vt20 m1 fun _ _=>?_
   refine go ?_;refine vkc (kr_left g4.2.1 (.tail _ (.head _))) ?_
   by_cases k2:K.2.l.length=0
   ·have e:formOk v l=true:=by rw[e0,k1,decide_eq_true k2];rfl
    have e2:formP v l=K.1:=(if_pos e).trans (by rw[eK]);rw[e,e2];refine go ?_;exact vrn2 (y.sl,y.c) ⟨g5,g4.2.2⟩
   ·have e:formOk v l=false:=by rw[e0,k1,decide_eq_false k2];rfl
    rw[e,formP_no e];refine go ?_;exact vrn2 (sl0,y.c) ⟨g5,at0 0 _,fun _=>rfl⟩
  ·have e:formOk v l=false:=by rw[e0,Bool.eq_false_iff.2 k1];rfl
   rw[Bool.eq_false_iff.2 k1]at m1;rw[e,formP_no e];refine vt20 m1 fun _ _=>?_
   refine go ?_;exact vrn2 (sl0,y.c) ⟨g5,at0 0 _,fun _=>rfl⟩
theorem tn_Decode (hT:Tabs c) {n:Nat} {a:Option Addr} {l:List UInt8} (hr:Row c a (B8 l)) (hn:a=none→n=0) (hl:l.length≤n) (h5:l.length≤100000) (hF:formOk v l=true→Fit (formP v l)):Tn Tryz.prog 36 [.int .i64 v,.slice a l.length n] c (fun x:Sl=>.tuple #[(decP v l).val x,.int .i64 (decE v l)]) (fun x c'=>(decP v l).At x c'∧(x.ca=none→x.cc=0)):=by
 have c1:=ck_dexists (c:=c) v;refine Tn.in Tryz.func36 ?_
 by_cases hv:v=4∨v=5
 case neg =>
  have e:decE v l=1:=if_neg hv;have e2:decP v l=zk 0:=if_neg (by rw[e];decide);rw[show (decide (v=4)||decide (v=5))=false by simpa using hv]at c1;rw[e,e2];refine go ?_;refine vA fun b1=>?_
  refine go ?_;exact vrn2 (sl0,c) ⟨Le.refl c,at0 0 c,fun _=>rfl⟩
 rw[show (decide (v=4)||decide (v=5))=true by simpa using hv]at c1;have c2:=tn_Form (v:=v) hT hr hn hl h5;cases hO:formOk v l with
 | false =>
  have e:decE v l=3:=(if_pos hv).trans (if_neg (by rw[hO];decide));have e2:decP v l=zk 0:=if_neg (by rw[e];decide);rw[hO]at c2;rw[e,e2];refine go ?_;refine vA fun b1=>?_
  refine go ?_;refine vtn c2 fun x c' h1 h2=>?_
  refine go ?_;refine vA fun b2=>?_
  refine go ?_;exact vrn2 (sl0,c') ⟨h1,at0 0 c',fun _=>rfl⟩
 | true =>
  rw[hO]at c2;refine go ?_;refine vA fun b1=>?_
  refine go ?_;refine vtn c2 fun x c' h1 h2=>?_
  refine go ?_;refine vA fun b2=>?_
  have c3:=ck_Right (hT.le h1) v (formP v l) x h2.1 (hF hO);cases hR:rightP v (formP v l) with
  | false =>
   have e:decE v l=4:=(if_pos hv).trans ((if_pos hO).trans (if_neg (by rw[hR];decide)));have e2:decP v l=zk 0:=if_neg (by rw[e];decide);rw[hR]at c3;rw[e,e2];refine go ?_;exact vrn2 (sl0,c') ⟨h1,at0 0 c',fun _=>rfl⟩
  | true =>
   have e:decE v l=0:=(if_pos hv).trans ((if_pos hO).trans (if_pos hR));have e2:decP v l=formP v l:=if_pos e;rw[hR]at c3;rw[e,e2];refine go ?_;exact vrn2 (x,c') ⟨h1,h2⟩
end
theorem take_canon {s:List UInt8} (hl:s.length≤100000) (h:(takeR s 0).2=true):(∀ p∈(takeR s 0).1,p.wf')∧(putL [] (takeR s 0).1).length+(takeLeft s 0).length=s.length∧takeErr s 0=0:=by
 by_cases he:takeErr s 0=0
 case neg =>
  unfold takeR at h;rw[if_neg he]at h;cases h
 by_cases hk:(eachL (takeSec s 0)).2=true
 case neg =>
  unfold takeR at h;rw[if_pos he,if_neg hk]at h;cases h
 have hR:takeR s 0=(sortL (eachL (takeSec s 0)).1,true):=by unfold takeR;rw[if_pos he,if_pos hk]
 obtain ⟨e1,e2⟩:=each_inv (takeSec s 0).length (takeSec s 0) (Nat.le_refl _) hk;obtain ⟨t1,t2⟩:=take_inv he;have hw:∀ p∈sortL (eachL (takeSec s 0)).1,p.wf':=fun p hp=>(e2 p (sortL_mem.1 hp)).2.wf'
 have hok:∀ p∈sortL (eachL (takeSec s 0)).1,p.ok=true:=fun p hp=>(e2 p (sortL_mem.1 hp)).1
 have hlen:(layAll (sortL (eachL (takeSec s 0)).1)).length=(takeSec s 0).length:=by
  rw[layAll_sort,← e1]
 have hgo:=lenGo_all (sortL (eachL (takeSec s 0)).1) 0 hw hok (by omega);rw[Nat.zero_add]at hgo;rw[hR];refine ⟨hw,?_,he⟩
 have hp:putL [] (sortL (eachL (takeSec s 0)).1)=varL (takeSec s 0).length++layAll (sortL (eachL (takeSec s 0)).1):=by
  unfold putL;rw[hgo,hlen];simp[addVar]
 rw[hp,List.length_append,hlen]
 conv=>rhs;rw[t1]
 simp;omega
theorem rd_le (n:Int) (S:Ts):(S.rd n).l.length≤S.l.length:=leftL_le _ _ _
theorem rdB_le (S:Ts):S.rdB.l.length≤S.l.length:=Nat.le_trans (leftL_le _ _ _) (leftL_le _ _ _)
theorem takeLeft_le (l:List UInt8) (e:Int):(takeLeft l e).length≤l.length:=Nat.le_trans (leftL_le _ _ _) (rv_suf 4 0 0 l e).length_le
theorem rdS_le (v:Int) (S:Ts):(S.rdS v).l.length≤S.l.length:=by
 unfold Ts.rdS
 split
 ·exact Nat.le_refl _
 ·exact takeLeft_le _ _
theorem bin9_le (S:Ts):S.bin.size≤65535:=by
 have h1:=taken_le (num (taken 2 S.l S.e)) (leftL 2 S.l S.e) (leftE 2 S.l S.e);have h2:=num_lt (taken 2 S.l S.e);have h3:=taken_le 2 S.l S.e;have h4:256 ^ (taken 2 S.l S.e).length≤256 ^ 2:=Nat.pow_le_pow_right (by decide) (by omega);have h5:S.bin.size=(binTaken S.l S.e).length:=by unfold Ts.bin;rw[ba_size]
 rw[h5];unfold binTaken;omega
theorem n1_lt (s:Ts):s.num 1 < 256:=num_le 1 s.l s.e 1 (by omega)
theorem num2_lt (S:Ts):S.num 2 < 65536:=by
 have h1:=taken_le 2 S.l S.e;have h2:=num_lt (taken 2 S.l S.e);have h4:256 ^ (taken 2 S.l S.e).length≤256 ^ 2:=Nat.pow_le_pow_right (by decide) (by omega);unfold Ts.num;omega
structure Lok (L:List Pr):Prop where
 n:L.length≤100000
 w:∀ x∈L,x.wf'∧x.a.size≤9223372036854∧x.b.size≤9223372036854
 s:sizeR L≤100001
theorem size_nil:sizeR []=1:=by decide +kernel
theorem lok_nil:Lok []:=⟨Nat.zero_le _,by simp,by rw[size_nil];omega⟩
theorem size_put {L:List Pr} (h:∀ p∈L,p.wf'):sizeR L=(putL [] L).length:=by
 unfold sizeR putL;cases hn:lenGo L 0 with
 | none=>rfl
 | some n =>
  have:=(lenGo_some L 0 n h hn (by omega)).2.1
  simp[addVar];omega
theorem takeR_bad {l:List UInt8} {e:Int} (he:e≠0):(takeR l e).1=[]:=by
 have h1:leftE 1 l e=e:=if_neg he
 have h2:takeErr l e≠0:=by
  unfold takeErr;rw[rv_stop (by rw[h1];exact he)];dsimp only;rw[h1,show leftE _ _ e=e from if_neg he];exact he
 unfold takeR;rw[if_neg h2]
theorem takeR_len9 (l:List UInt8) (e:Int):(takeR l e).1.length≤l.length:=by
 have h1:(eachL (takeSec l e)).1.length≤(takeSec l e).length:=each_len _ _;have h2:=takeSec_len l e;unfold takeR
 split
 ·split
  ·show (sortL _).length≤_
   rw[sortL_length];omega
  ·exact Nat.zero_le _
 ·exact Nat.zero_le _
theorem takeR_lok {l:List UInt8} (e:Int) (h:l.length≤100000):Lok (takeR l e).1:=by
 by_cases he:e=0
 ·subst he
  cases hb:(takeR l 0).2 with
  | true =>
   obtain ⟨hw,hs,_⟩:=take_canon h hb;exact ⟨Nat.le_trans (takeR_len9 l 0) h,fun x hx=>⟨hw x hx,(hw x hx).ha,(hw x hx).hb⟩,by rw[size_put hw];omega⟩
  | false =>
   have:(takeR l 0).1=[]:=by
    revert hb;unfold takeR
    split
    ·split
     ·intro h;cases h
     ·intro _;rfl
    ·intro _;rfl
   rw[this];exact lok_nil
 ·rw[takeR_bad he];exact lok_nil
theorem sec_lok {S:Ts} (v:Int) (h:S.l.length≤100000):Lok (S.sec v):=by
 unfold Ts.sec
 split
 ·exact lok_nil
 ·exact takeR_lok _ h
structure Ok9 (p:Pk):Prop where
 client:p.client.size≤100000
 willTopic:p.willTopic.size≤100000
 willLoad:p.willLoad.size≤100000
 user:p.user.size≤100000
 pass:p.pass.size≤100000
 topic:p.topic.size≤100000
 load:p.load.size≤100000
 nf:p.filters.length≤100000
 nc:p.codes.length≤100000
 props:Lok p.props
 wprops:Lok p.willProps
 tf:∀ f∈p.filters,f.opt < 256∧f.text.size≤100000
 qos:p.qos < 256
 id:p.id < 65536
 keep:p.keep < 65536
 wq:p.willQoS < 256
 code:p.code < 256
theorem Ok9.fit {p:Pk} (h:Ok9 p):Fit p:=by
 have h1:=h.client;have h2:=h.willTopic;have h3:=h.willLoad;have h4:=h.user;have h5:=h.pass;have h6:=h.topic;have h7:=h.load;have h8:=h.nf;have h9:=h.nc;have h10:=h.props.n;have h11:=h.wprops.n
 exact ⟨⟨h11,h8,h9,h10⟩,⟨fun x hx=>(h.wprops.w x hx).1,fun x hx=>(h.props.w x hx).1⟩,
  ⟨by omega,by omega,by omega,by omega,by omega,by omega,by omega,by omega,by omega,by omega,by omega,fun f hf=>by have:=(h.tf f hf).2;omega,fun x hx=>by have:=(h.props.w x hx).2;omega,fun x hx=>by have:=(h.wprops.w x hx).2;omega⟩,
  h.qos,h.id,h.keep,h.wq,h.code,fun f hf=>(h.tf f hf).1⟩
theorem ok9_zk (k:Int):Ok9 (zk k):=⟨Nat.zero_le _,Nat.zero_le _,Nat.zero_le _,Nat.zero_le _,Nat.zero_le _,Nat.zero_le _,Nat.zero_le _,Nat.zero_le _,Nat.zero_le _,lok_nil,lok_nil,(by intro f hf;cases hf),(by decide:0 < 256),(by decide:0 < 65536),(by decide:0 < 65536),(by decide:0 < 256),(by decide:0 < 256)⟩
section
variable {p:Pk}
theorem Ok9.code9 (h:Ok9 p) {n:Nat} (hn:n < 256):Ok9 { p with code:=n }:=⟨h.client,h.willTopic,h.willLoad,h.user,h.pass,h.topic,h.load,h.nf,h.nc,h.props,h.wprops,h.tf,h.qos,h.id,h.keep,h.wq,hn⟩
theorem Ok9.props9 (h:Ok9 p) {L:List Pr} (hL:Lok L):Ok9 { p with props:=L }:=⟨h.client,h.willTopic,h.willLoad,h.user,h.pass,h.topic,h.load,h.nf,h.nc,hL,h.wprops,h.tf,h.qos,h.id,h.keep,h.wq,h.code⟩
theorem Ok9.id9 (h:Ok9 p) {n:Nat} (hn:n < 65536):Ok9 { p with id:=n }:=⟨h.client,h.willTopic,h.willLoad,h.user,h.pass,h.topic,h.load,h.nf,h.nc,h.props,h.wprops,h.tf,h.qos,hn,h.keep,h.wq,h.code⟩
theorem Ok9.user9 (h:Ok9 p) {b:Bool} {u:ByteArray} (hu:u.size≤100000):Ok9 { p with hasUser:=b,user:=u }:=⟨h.client,h.willTopic,h.willLoad,hu,h.pass,h.topic,h.load,h.nf,h.nc,h.props,h.wprops,h.tf,h.qos,h.id,h.keep,h.wq,h.code⟩
theorem Ok9.pass9 (h:Ok9 p) {b:Bool} {u:ByteArray} (hu:u.size≤100000):Ok9 { p with hasPass:=b,pass:=u }:=⟨h.client,h.willTopic,h.willLoad,h.user,hu,h.topic,h.load,h.nf,h.nc,h.props,h.wprops,h.tf,h.qos,h.id,h.keep,h.wq,h.code⟩
theorem Ok9.pres9 (h:Ok9 p) {b:Bool}:Ok9 { p with present:=b }:=⟨h.client,h.willTopic,h.willLoad,h.user,h.pass,h.topic,h.load,h.nf,h.nc,h.props,h.wprops,h.tf,h.qos,h.id,h.keep,h.wq,h.code⟩
theorem Ok9.uflag (h:Ok9 p) {b:Bool}:Ok9 { p with hasUser:=b }:=h.user9 h.user
theorem Ok9.pflag (h:Ok9 p) {b:Bool}:Ok9 { p with hasPass:=b }:=h.pass9 h.pass
theorem Ok9.will9 (h:Ok9 p) {b r:Bool} {q:Nat} {L:List Pr} {t u:ByteArray} (hq:q < 256) (hL:Lok L) (ht:t.size≤100000) (hu:u.size≤100000):Ok9 { p with hasWill:=b,willQoS:=q,willRetain:=r,willProps:=L,willTopic:=t,willLoad:=u }:=⟨h.client,ht,hu,h.user,h.pass,h.topic,h.load,h.nf,h.nc,h.props,hL,h.tf,h.qos,h.id,h.keep,hq,h.code⟩
end
theorem bin5 (S:Ts):S.bin.size≤100000:=by have:=bin9_le S;omega
theorem rdN {S:Ts} (n:Int) (h:S.l.length≤100000):(S.rd n).l.length≤100000:=Nat.le_trans (rd_le _ _) h
theorem rdBN {S:Ts} (h:S.l.length≤100000):S.rdB.l.length≤100000:=Nat.le_trans (rdB_le _) h
theorem rdSN {S:Ts} (v:Int) (h:S.l.length≤100000):(S.rdS v).l.length≤100000:=Nat.le_trans (rdS_le _ _) h
theorem ok9_short {v:Int} {p:Pk} {S:Ts} (h:Ok9 p) (hn:S.l.length≤100000):Ok9 (shortK v p S).1:=by
 unfold shortK
 split
 ·exact h
 ·split
  ·exact h.code9 (n1_lt S)
  ·exact (h.code9 (n1_lt S)).props9 (sec_lok v (rdN 1 hn))
theorem ok9_will {v:Int} {f:Nat} {p:Pk} {S:Ts} (h:Ok9 p) (hn:S.l.length≤100000):Ok9 (willK v f p S).1:=by
 unfold willK
 split
 ·exact h.will9 (Nat.lt_of_le_of_lt Nat.and_le_right (by decide)) (sec_lok v hn) (bin5 _) (bin5 _)
 ·exact h.will9 h.wq h.wprops h.willTopic h.willLoad
theorem ok9_user {f:Nat} {p:Pk} {S:Ts} (h:Ok9 p):Ok9 (userK f p S).1:=by
 unfold userK
 split
 ·exact h.user9 (bin5 _)
 ·exact h.uflag
theorem ok9_pass {f:Nat} {p:Pk} {S:Ts} (h:Ok9 p):Ok9 (passK f p S).1:=by
 unfold passK
 split
 ·exact h.pass9 (bin5 _)
 ·exact h.pflag
theorem conF_le (v:Int) (S:Ts):(conF v S).l.length≤S.l.length:=Nat.le_trans (rd_le 1 (S.rdB.need (decide (S.bin=mqtt)))) (rdB_le S)
theorem ok9_conn {v:Int} {S:Ts} (hn:S.l.length≤100000):Ok9 (connK v S).1:=by
 have h2:(conF v S).l.length≤100000:=Nat.le_trans (conF_le v S) hn;unfold connK;dsimp only;generalize conF v S=s2 at h2;have h3:((s2.rd 1).need (decide (s2.num 1 &&& 1=0))).l.length≤100000:=rdN 1 h2;generalize (s2.rd 1).need (decide (s2.num 1 &&& 1=0))=s3 at h3 ⊢;refine ok9_pass (ok9_user (ok9_will ?_ (rdBN (rdSN v (rdN 2 h3)))));have z:=ok9_zk 1;exact ⟨bin5 _,z.willTopic,z.willLoad,z.user,z.pass,z.topic,z.load,z.nf,z.nc,sec_lok v (rdN 2 h3),z.wprops,z.tf,z.qos,z.id,num2_lt s3,z.wq,z.code⟩
theorem filt_ok (k:Int):∀ (n:Nat) (S:Ts),(filtK k n S).1.length≤n∧∀ f∈(filtK k n S).1,f.opt < 256∧f.text.size≤100000
 | 0,S=>⟨Nat.zero_le _,by intro f hf;cases hf⟩
 | n+1,S=>by
  by_cases h:S.ok=true∧0 < S.l.length
  ·rw[filtK_go h]
   have ih:=filt_ok k n (if k=8 then S.rdT.rd 1 else S.rdT);refine ⟨by simp only[List.length_cons];omega,fun f hf=>?_⟩;rcases List.mem_cons.1 hf with rfl|hf
   ·refine ⟨?_,bin5 S⟩
    dsimp only
    split
    ·exact n1_lt _
    ·decide
   ·exact ih.2 f hf
  ·rw[filtK_stop h]
   exact ⟨Nat.zero_le _,by intro f hf;cases hf⟩
theorem ok9_fields {v k:Int} {f:Nat} {S:Ts} (hn:S.l.length≤100000):Ok9 (fieldsK v k f S).1:=by
 have z:=ok9_zk;unfold fieldsK
 split
 ·exact ok9_conn hn
 split
 ·have h1:((S.rd 1).need (decide (S.num 1≤1))).l.length≤100000:=rdN 1 hn
  exact (((z 2).pres9 (b:=decide (S.num 1=1))).code9 (n1_lt _)).props9 (sec_lok v (rdN 1 h1))
 split
 ·unfold publK
  dsimp only;have h1:S.rdT.l.length≤100000:=rdBN hn
  have h2:(if (f / 2 &&& 3)=0 then S.rdT else S.rdT.rd 2).l.length≤100000:=by
   split
   ·exact h1
   ·exact rdN 2 h1
  generalize (if (f / 2 &&& 3)=0 then S.rdT else S.rdT.rd 2)=s2 at h2 ⊢;have hl:(s2.rdS v).rest.size≤100000:=by unfold Ts.rest;rw[ba_size];exact rdSN v h2
  have z3:=z 3;refine ⟨z3.client,z3.willTopic,z3.willLoad,z3.user,z3.pass,bin5 S,hl,z3.nf,z3.nc,sec_lok v h2,z3.wprops,z3.tf,Nat.lt_of_le_of_lt Nat.and_le_right (by decide),?_,z3.keep,z3.wq,z3.code⟩;dsimp only
  split
  ·decide
  ·exact num2_lt _
 split
 ·exact ok9_short ((z k).id9 (num2_lt S)) (rdN 2 hn)
 split
 ·have h2:=rdSN v (rdN 2 hn)
  have hf:=filt_ok k ((S.rd 2).rdS v).l.length ((S.rd 2).rdS v);have zz:=z k;exact ⟨zz.client,zz.willTopic,zz.willLoad,zz.user,zz.pass,zz.topic,zz.load,Nat.le_trans hf.1 h2,zz.nc,sec_lok v (rdN 2 hn),zz.wprops,hf.2,zz.qos,num2_lt S,zz.keep,zz.wq,zz.code⟩
 split
 ·have zz:=z k
  exact ⟨zz.client,zz.willTopic,zz.willLoad,zz.user,zz.pass,zz.topic,zz.load,zz.nf,rdSN v (rdN 2 hn),sec_lok v (rdN 2 hn),zz.wprops,zz.tf,zz.qos,num2_lt S,zz.keep,zz.wq,zz.code⟩
 split
 ·exact ok9_short (z k) hn
 ·exact z k
theorem ok9_form {v:Int} {l:List UInt8} (hn:l.length≤100000):Ok9 (formP v l):=by
 unfold formP
 split
 ·exact ok9_fields (by simp only[List.length_drop];omega)
 ·exact ok9_zk 0
end Go.Proofs.YtofjhopecfmbcaaGreatDoor
