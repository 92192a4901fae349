import Derived.Test.YtofjhopecfmbcaaGreatDoorYH5
import Derived.Test.YtofjhopecfmbcaaGreatDoorYF8
import Derived.Test.YtofjhopecfmbcaaGreatDoorYF3
import Derived.Test.YtofjhopecfmbcaaGreatDoorYF7
import Derived.Test.YtofjhopecfmbcaaGreatDoorYF1
namespace Go.Proofs.YtofjhopecfmbcaaGreatDoor
open Go.RowKit
set_option linter.unusedVariables false
set_option linter.unusedSimpArgs false
set_option maxRecDepth 100000
def mqtt:ByteArray:=⟨#[77,81,84,84]⟩
structure Ri (v:Int) (p:Pk):Prop where
 hv:v=4∨v=5
 k1:1≤p.kind
 k2:p.kind≤15
 bare:p=bareP p
 qos:p.qos≤2
 wq:p.willQoS≤2
 client:p.client.size≤65535
 user:p.user.size≤65535
 pass:p.pass.size≤65535
 willTopic:p.willTopic.size≤65535
 willLoad:p.willLoad.size≤65535
 topic:p.topic.size≤65535
 filt:∀ f∈p.filters,f.text.size≤65535
 nf:p.filters.length≤1024
 nc:p.codes.length≤1024
 rest:restN v p≤268435455
structure Ts where
 l:List UInt8
 e:Int
 b:Bool
namespace Ts
def num (n:Int) (s:Ts):Nat:=Go.Proofs.YtofjhopecfmbcaaGreatDoor.num (taken n s.l s.e)
def rd (n:Int) (s:Ts):Ts:=⟨leftL n s.l s.e,leftE n s.l s.e,s.b⟩
def bin (s:Ts):ByteArray:=⟨(binTaken s.l s.e).toArray⟩
def rdB (s:Ts):Ts:=⟨binL s.l s.e,binE s.l s.e,s.b⟩
def need (s:Ts) (x:Bool):Ts:=⟨s.l,s.e,s.b||!x⟩
def rdT (s:Ts):Ts:=s.rdB.need (okText s.bin)
def sec (v:Int) (s:Ts):List Pr:=if v=4 then [] else (takeR s.l s.e).1
def rdS (v:Int) (s:Ts):Ts:=if v=4 then s else Ts.need ⟨takeLeft s.l s.e,takeErr s.l s.e,s.b⟩ (takeR s.l s.e).2
def rest (s:Ts):ByteArray:=⟨s.l.toArray⟩
def rdR (s:Ts):Ts:=⟨[],s.e,s.b⟩
def ok (s:Ts):Bool:=!s.b&&decide (s.e=0)
end Ts
def shortK (v:Int) (p:Pk) (s:Ts):Pk × Ts :=
 if v=4∨s.l.length=0 then (p,s) else if (s.rd 1).l.length=0 then ({ p with code:=s.num 1 },s.rd 1) else ({ p with code:=s.num 1,props:=(s.rd 1).sec v },(s.rd 1).rdS v)
def filtK (k:Int):Nat→Ts→List Fi × Ts
 | 0,s=>([],s)
 | n+1,s=>if s.ok=true∧0 < s.l.length then
   (⟨s.bin,if k=8 then s.rdT.num 1 else 0⟩ :: (filtK k n (if k=8 then s.rdT.rd 1 else s.rdT)).1,(filtK k n (if k=8 then s.rdT.rd 1 else s.rdT)).2) else ([],s)
theorem filtK_stop {k:Int} {s:Ts} (h:¬ (s.ok=true∧0 < s.l.length)):∀ n,filtK k n s=([],s)
 | 0=>rfl
 | n+1=>if_neg h
theorem filtK_go {k:Int} {s:Ts} {n:Nat} (h:s.ok=true∧0 < s.l.length):filtK k (n+1) s=(⟨s.bin,if k=8 then s.rdT.num 1 else 0⟩ :: (filtK k n (if k=8 then s.rdT.rd 1 else s.rdT)).1,(filtK k n (if k=8 then s.rdT.rd 1 else s.rdT)).2):=if_pos h
theorem leftL_le (n:Int) (l:List UInt8) (e:Int):(leftL n l e).length≤l.length:=by
 unfold leftL
 split
 ·split
  ·rw[List.length_drop];omega
  ·simp
 ·exact Nat.le_refl _
theorem rdT_lt {s:Ts} (h:s.ok=true∧0 < s.l.length):s.rdT.l.length < s.l.length:=by
 obtain ⟨h1,h0⟩:=h
 have he:s.e=0:=by
  unfold Ts.ok at h1;simp only[Bool.and_eq_true,decide_eq_true_eq]at h1;exact h1.2
 have h2:(leftL 2 s.l s.e).length < s.l.length:=by
  unfold leftL;rw[if_pos he]
  split
  ·rw[List.length_drop];omega
  ·simpa using h0
 exact Nat.lt_of_le_of_lt (leftL_le _ _ _) h2
theorem filtK_lt {k:Int} {s:Ts} (h:s.ok=true∧0 < s.l.length):(if k=8 then s.rdT.rd 1 else s.rdT).l.length < s.l.length:=by
 have h1:=rdT_lt h
 split
 ·exact Nat.lt_of_le_of_lt (leftL_le _ _ _) h1
 ·exact h1
theorem filtK_round {k:Int} {N n:Nat} {S s s':Ts} {acc:List Fi} {o:Nat} (hf:filtK k N S=(acc++(filtK k n s).1,(filtK k n s).2)) (hn:s.l.length≤n) (h:s.ok=true∧0 < s.l.length) (ho:o=if k=8 then s.rdT.num 1 else 0) (hs:s'=if k=8 then s.rdT.rd 1 else s.rdT) :
  filtK k N S=((acc++[⟨s.bin,o⟩])++(filtK k (n - 1) s').1,(filtK k (n - 1) s').2)∧s'.l.length≤n - 1:=by
 have h2:=filtK_lt (k:=k) h;obtain ⟨m,rfl⟩:∃ m,n=m+1:=⟨n - 1,by omega⟩
 subst ho hs;rw[hf,filtK_go h,Nat.add_sub_cancel];refine ⟨by simp,by omega⟩
theorem filtK_end {k:Int} {N n:Nat} {S s:Ts} {acc:List Fi} (hf:filtK k N S=(acc++(filtK k n s).1,(filtK k n s).2)) (h:¬ (s.ok=true∧0 < s.l.length)):filtK k N S=(acc,s):=by
 rw[hf,filtK_stop h];simp
def willK (v:Int) (f:Nat) (p:Pk) (s:Ts):Pk × Ts :=
 if (!decide (f &&& 4=0))=true then
  ({ p with hasWill:=!decide (f &&& 4=0),willQoS:=f / 8 &&& 3,willRetain:=!decide (f &&& 32=0),willProps:=s.sec v,willTopic:=(s.rdS v).bin,willLoad:=(s.rdS v).rdT.bin },(s.rdS v).rdT.rdB)
 else ({ p with hasWill:=!decide (f &&& 4=0) },s.need (decide (f &&& 56=0)))
def userK (f:Nat) (p:Pk) (s:Ts):Pk × Ts :=
 if (!decide (f &&& 128=0))=true then ({ p with hasUser:=!decide (f &&& 128=0),user:=s.bin },s.rdT) else ({ p with hasUser:=!decide (f &&& 128=0) },s)
def passK (f:Nat) (p:Pk) (s:Ts):Pk × Ts :=
 if (!decide (f &&& 64=0))=true then ({ p with hasPass:=!decide (f &&& 64=0),pass:=s.bin },s.rdB) else ({ p with hasPass:=!decide (f &&& 64=0) },s)
def conF (v:Int) (s:Ts):Ts:=((s.rdB.need (decide (s.bin=mqtt))).rd 1).need (decide (((s.rdB.need (decide (s.bin=mqtt))).num 1:Int)=v))
def connK (v:Int) (s:Ts):Pk × Ts :=
 let s2:=conF v s;let f:=s2.num 1;let s3:=(s2.rd 1).need (decide (f &&& 1=0));let s5:=(s3.rd 2).rdS v;let w:=willK v f { zk 1 with clean:=!decide (f &&& 2=0),keep:=s3.num 2,props:=(s3.rd 2).sec v,client:=s5.bin } s5.rdT;let u:=userK f w.1 w.2
 passK f u.1 u.2
def connackK (v:Int) (s:Ts):Pk × Ts :=
 let s1:=(s.rd 1).need (decide (s.num 1≤1))
 ({ zk 2 with present:=decide (s.num 1=1),code:=s1.num 1,props:=(s1.rd 1).sec v },(s1.rd 1).rdS v)
def publK (v:Int) (f:Nat) (s:Ts):Pk × Ts :=
 let s1:=s.rdT;let s2:=if (f / 2 &&& 3)=0 then s1 else s1.rd 2
 ({ zk 3 with dup:=!decide (f &&& 8=0),qos:=f / 2 &&& 3,retain:=!decide (f &&& 1=0),topic:=s.bin,id:=if (f / 2 &&& 3)=0 then 0 else s1.num 2,props:=s2.sec v,load:=(s2.rdS v).rest },(s2.rdS v).rdR)
def fieldsK (v k:Int) (f:Nat) (s:Ts):Pk × Ts :=
 if k=1 then connK v s
 else if k=2 then connackK v s
 else if k=3 then publK v f s
 else if k=4∨k=5∨k=6∨k=7 then shortK v { zk k with id:=s.num 2 } (s.rd 2)
 else if k=8∨k=10 then ({ zk k with id:=s.num 2,props:=(s.rd 2).sec v,filters:=(filtK k ((s.rd 2).rdS v).l.length ((s.rd 2).rdS v)).1 },(filtK k ((s.rd 2).rdS v).l.length ((s.rd 2).rdS v)).2)
 else if k=9∨k=11 then ({ zk k with id:=s.num 2,props:=(s.rd 2).sec v,codes:=((s.rd 2).rdS v).l },((s.rd 2).rdS v).rdR)
 else if k=14∨k=15 then shortK v (zk k) s
 else (zk k,s)
structure Hd where
 kind:Int
 flags:Nat
 head:Int
 rest:Nat
def headS (b:List UInt8):Nat × List UInt8 × Int:=rv 4 0 0 (leftL 1 b 0) (leftE 1 b 0)
def headE (b:List UInt8):Int:=(headS (b.take 5)).2.2
def headB (b:List UInt8):Hd :=
 if headE b=0 then ⟨((num (taken 1 (b.take 5) 0) / 16:Nat):Int),num (taken 1 (b.take 5) 0) % 16,((b.take 5).length:Int) - ((headS (b.take 5)).2.1.length:Int),(headS (b.take 5)).1⟩ else ⟨0,0,0,0⟩
def headOk (v:Int) (h:Hd):Bool :=
 if !(decide (v=4)||decide (v=5))||(decide (h.kind=0)||(decide (v=4)&&decide (h.kind=15))) then false
 else if h.kind=3 then true else if h.kind=6∨h.kind=8∨h.kind=10 then decide (h.flags=2) else decide (h.flags=0)
def formS (v:Int) (b:List UInt8):Pk × Ts:=fieldsK v (headB b).kind (headB b).flags ⟨b.drop (headB b).head.toNat,0,false⟩
def formOk (v:Int) (b:List UInt8):Bool :=
 decide (headE b=0)&&(decide ((b.length:Int)=(headB b).head+(headB b).rest)&&(headOk v (headB b)&&((formS v b).2.ok&&decide ((formS v b).2.l.length=0))))
def formP (v:Int) (b:List UInt8):Pk:=if formOk v b=true then (formS v b).1 else zk 0
def decE (v:Int) (b:List UInt8):Int:=if v=4∨v=5 then (if formOk v b=true then (if rightP v (formP v b)=true then 0 else 4) else 3) else 1
def decP (v:Int) (b:List UInt8):Pk:=if decE v b=0 then formP v b else zk 0
open Go.RowKit
set_option linter.unusedVariables false
set_option linter.unusedSimpArgs false
set_option maxRecDepth 100000
set_option maxHeartbeats 8000000
section
variable {c:World}
theorem ck_ownConnect (p:Pk) (s:Sl) (hk:p.kind=1):Ck Tryz.prog 111 [p.val s] c ((bareP p).val (ownSl p s)):=by
 refine Ck.in Tryz.func111 ?_
 repeat' first|refine go ?_|refine vA fun _=>?_|refine vc (fun _=>?_) fun _=>?_|refine vg (fun _=>?_) fun _=>?_|refine vh [2] ?_|refine vrv ?_
 all_goals (simp only[bareP,ownSl, *,↓reduceIte,Bool.false_eq_true];rfl)
theorem ck_own (p:Pk) (s:Sl):Ck Tryz.prog 78 [p.val s] c ((bareP p).val (ownSl p s)):=by
 by_cases hk:p.kind=1
 ·have c1:=ck_ownConnect (c:=c) p s hk
  refine Ck.in Tryz.func78 ?_
  repeat' first|refine go ?_|refine vA fun _=>?_|refine vrv ?_
  rfl
 refine Ck.in Tryz.func78 ?_
 repeat' first|refine go ?_|refine vA fun _=>?_|refine vc (fun _=>?_) fun _=>?_|refine vg (fun _=>?_) fun _=>?_|refine vrv ?_
 all_goals (simp only[bareP,ownSl,zk, *,↓reduceIte,Int.reduceEq,or_self,or_true,true_or,false_or,or_false];rfl)
theorem ck_sameWill (p q:Pk) (s t:Sl) (hp:p.At s c) (hF:p.few) (hq:q.At t c) (hG:q.few):Ck Tryz.prog 107 [p.val s,q.val t] c (.bool (willB p q)):=by
 have c1:=ck_psame (n:=s.wc) (m:=t.wc) hp.hw hq.hw hF.hw hG.hw;refine Ck.in Tryz.func107 ?_
 repeat' first|refine go ?_|refine vA fun _=>?_|refine vc (fun _=>?_) fun _=>?_|refine vg (fun _=>?_) fun _=>?_|refine vrb ?_
 all_goals grind [willB]
theorem ck_Same (p q:Pk) (s t:Sl) (hp:p.At s c) (hF:p.few) (hq:q.At t c) (hG:q.few):Ck Tryz.prog 77 [p.val s,q.val t] c (.bool (decide (p=q))):=by
 have c1:=ck_psame (n:=s.pc) (m:=t.pc) hp.hp hq.hp hF.hp hG.hp;have c2:=ck_fequal (n:=s.fc) (m:=t.fc) hp.hf hq.hf hF.hf hG.hf;have c3:=ck_cequal (n:=s.cc) (m:=t.cc) hp.hc hq.hc hF.hc hG.hc;have c4:=ck_sameWill p q s t hp hF hq hG;rw[← sameB_eq];refine Ck.in Tryz.func77 ?_
 repeat' first|refine go ?_|refine vA fun _=>?_|refine vc (fun _=>?_) fun _=>?_|refine vg (fun _=>?_) fun _=>?_|refine vrb ?_
 all_goals grind [sameB]
theorem ck_numberSize (p:Pk) (s:Sl):Ck Tryz.prog 121 [p.val s] c (.int .i64 (if p.qos=0 then 0 else 2:Nat)):=by
 refine Ck.in Tryz.func121 ?_
 repeat' first|refine go ?_|refine vA fun _=>?_|refine vc (fun _=>?_) fun _=>?_|refine vri ?_
 all_goals grind
theorem ck_shortCode (hT:Tabs c) (v:Int) (p:Pk) (s:Sl) (hp:p.At s c) (hF:Fit p):Ck Tryz.prog 122 [.int .i64 v,p.val s] c (.int .i64 (shortN v p)):=by
 have c1:=ck_section hT v (n:=s.pc) hp.hp hF.few.hp hF.wf.p;have h1:=secN_le v p.props;refine Ck.in Tryz.func122 ?_
 repeat' first|refine go ?_|refine vA fun _=>?_|refine vc (fun _=>?_) fun _=>?_|refine vg (fun _=>?_) fun _=>?_|refine vri ?_|refine vh [0] ?_
 all_goals grind [shortN]
theorem ck_connectSize (hT:Tabs c) (v:Int) (p:Pk) (s:Sl) (hp:p.At s c) (hF:Fit p):Ck Tryz.prog 118 [.int .i64 v,p.val s] c (.int .i64 (connectN v p)):=by
 have c1:=ck_section hT v (n:=s.pc) hp.hp hF.few.hp hF.wf.p;have c2:=ck_section hT v (n:=s.wc) hp.hw hF.few.hw hF.wf.w;have d1:=secN_le v p.props;have d2:=secN_le v p.willProps;have d3:=hF.r.client;have d4:=hF.r.willTopic;have d5:=hF.r.willLoad;have d6:=hF.r.user;have d7:=hF.r.pass;have c3:=ck_bin c _ d3;have c4:=ck_bin c _ d4;have c5:=ck_bin c _ d5;have c6:=ck_bin c _ d6;have c7:=ck_bin c _ d7;refine Ck.in Tryz.func118 ?_
 repeat' first|refine go ?_|refine vA fun _=>?_|refine vc (fun _=>?_) fun _=>?_|refine vg (fun _=>?_) fun _=>?_|refine vri ?_|refine vh [0] ?_
 all_goals grind [connectN]
theorem ck_Rest (hT:Tabs c) (v:Int) (p:Pk) (s:Sl) (hp:p.At s c) (hF:Fit p) (hN:filtersN p.kind p.filters≤4611686018427387904):Ck Tryz.prog 81 [.int .i64 v,p.val s] c (.int .i64 (restN v p)):=by
 have c1:=ck_section hT v (n:=s.pc) hp.hp hF.few.hp hF.wf.p;have d1:=secN_le v p.props;have d2:=hF.r.topic;have d3:=hF.r.load;have d4:=hF.few.hc;have c2:=ck_bin c _ d2;have c3:=ck_numberSize (c:=c) p s;have c4:=ck_shortCode hT v p s hp hF;have c5:=ck_connectSize hT v p s hp hF;have c6:=ck_filtersSize p s hp hF hN;have d5:shortN v p≤268435460:=by unfold shortN;grind
 have d6:(if p.qos=0 then 0 else 2:Nat)≤2:=by grind
 generalize hq:(if p.qos=0 then 0 else 2:Nat)=q at *;refine Ck.in Tryz.func81 ?_
 repeat' first|refine go ?_|refine vA fun _=>?_|refine vc (fun _=>?_) fun _=>?_|refine vg (fun _=>?_) fun _=>?_|refine vri ?_|refine vh [0] ?_
 all_goals grind [restN]
end
end Go.Proofs.YtofjhopecfmbcaaGreatDoor
namespace Go.Proofs.YtofjhopecfmbcaaGreatDoor
open Go.RowKit
set_option linter.unusedVariables false
set_option linter.unusedSimpArgs false
set_option maxRecDepth 100000
set_option maxHeartbeats 8000000
theorem ck_Right {c:World} (hT:Tabs c) (v:Int) (p:Pk) (s:Sl) (hp:p.At s c) (hF:Fit p):Ck Tryz.prog 56 [.int .i64 v,p.val s] c (.bool (rightP v p)):=by
 have c1:=ck_exists c v p.kind;have c2:=ck_own (c:=c) p s;have c3:=ck_Same p (bareP p) s (ownSl p s) hp hF.few (ownSl_at hp) (bare_few hF.few);have c4:=ck_propsRight hT v p s hp hF;have c5:=ck_fieldsRight hT v p s hp hF
 by_cases hB:p=bareP p∧fieldsB v p=true
 ·have hS:=filtersN_le p.kind p.filters (right_S (v:=v) (p:=p) (by rw[sameB_eq];exact decide_eq_true hB.1) hB.2)
  have hf:=hF.few.hf;have c6:=ck_Rest hT v p s hp hF (by omega);refine Ck.in Tryz.func56 ?_
  repeat' first|refine go ?_|refine vA fun b=>?_|refine vc (fun _=>?_) fun _=>?_|refine vg (fun _=>?_) fun _=>?_|refine vh [0] ?_|refine vqg (fun _=>?_) fun _=>?_|refine vrb ?_
  all_goals grind [rightP]
 ·refine Ck.in Tryz.func56 ?_
  repeat' first|refine go ?_|refine vA fun b=>?_|refine vc (fun _=>?_) fun _=>?_|refine vg (fun _=>?_) fun _=>?_|refine vh [0] ?_|refine vqg (fun _=>?_) fun _=>?_|exact absurd (And.intro (by assumption) (by assumption)) hB|refine vrb ?_
  all_goals grind [rightP]
end Go.Proofs.YtofjhopecfmbcaaGreatDoor
