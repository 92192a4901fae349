import Derived.Test.YtohmcfmcbibbcaaGreatDoorYH9
import Derived.Test.YtohmcfmcbibbcaaGreatDoorYI1
import Derived.Test.YtohmcfmcbibbcaaGreatDoorYF1
import Derived.Test.YtohmcfmcbibbcaaGreatDoorYH4
import Derived.Test.YtohmcfmcbibbcaaGreatDoorYI2
import Derived.Test.YtohmcfmcbibbcaaGreatDoorYFS
namespace Go.Proofs.YtohmcfmcbibbcaaGreatDoor
open Go.RowKit
set_option linter.unusedVariables false
set_option linter.unusedSimpArgs false
set_option maxRecDepth 100000
def willD (v:Int) (f:Nat) (p:Pk) (s:Ts):Pk × Ts :=
 if (!decide (f &&& 4=0))=true then ({ p with willProps:=s.sec v,willTopic:=(s.rdS v).bin,willLoad:=(s.rdS v).rdT.bin },(s.rdS v).rdT.rdB) else (p,s)
def userD (p:Pk) (s:Ts):Pk × Ts:=if p.hasUser=true then ({ p with user:=s.bin },s.rdT) else (p,s)
def passD (p:Pk) (s:Ts):Pk × Ts:=if p.hasPass=true then ({ p with pass:=s.bin },s.rdB) else (p,s)
def conB (v:Int) (s:Ts):Bool:=(((s.b||!decide (s.bin=mqtt))||!decide ((s.rdB.num 1:Int)=v))||decide ((s.rdB.rd 1).num 1 % 2=1))||(!(!decide ((s.rdB.rd 1).num 1 &&& 4=0))&&!decide ((s.rdB.rd 1).num 1 / 8 % 8=0))
def conS (v:Int) (s:Ts):Ts:=⟨(((s.rdB.rd 1).rd 1).rd 2).l,(((s.rdB.rd 1).rd 1).rd 2).e,conB v s⟩
def conP (v:Int) (s:Ts):Pk:={ zk 1 with clean:=!decide ((s.rdB.rd 1).num 1 &&& 2=0),keep:=((s.rdB.rd 1).rd 1).num 2,client:=((conS v s).rdS v).bin,hasWill:=!decide ((s.rdB.rd 1).num 1 &&& 4=0),hasUser:=!decide ((s.rdB.rd 1).num 1 &&& 128=0),hasPass:=!decide ((s.rdB.rd 1).num 1 &&& 64=0),willQoS:=(s.rdB.rd 1).num 1 / 8 &&& 3,willRetain:=!decide ((s.rdB.rd 1).num 1 &&& 32=0),props:=(conS v s).sec v }
def connD (v:Int) (s:Ts):Pk × Ts :=
 let f:=(s.rdB.rd 1).num 1;let w:=willD v f (conP v s) ((conS v s).rdS v).rdT;let u:=userD w.1 w.2
 passD u.1 u.2
theorem bits9:∀ f:Nat,f < 256→(decide (f / 2 % 2=1) = !decide (f &&& 2=0))∧(decide (f / 4 % 2=1) = !decide (f &&& 4=0))∧(f / 8 % 4=(f / 8 &&& 3))∧(decide (f / 32 % 2=1) = !decide (f &&& 32=0))∧(decide (f / 64 % 2=1) = !decide (f &&& 64=0))∧(decide (f / 128 % 2=1) = !decide (f &&& 128=0)):=by decide +kernel
theorem bits1:∀ f:Nat,f < 256→(decide (f % 2=1) = !decide (f &&& 1=0))∧(decide (f &&& 4=0)=true→decide (f / 8 % 8=0)=decide (f &&& 56=0))∧(decide (f &&& 56=0)=true→(f / 8 &&& 3)=0∧(!decide (f &&& 32=0))=false):=by decide +kernel
def conX (v:Int) (s:Ts):Ts:=((((conF v s).rd 1).need (decide ((conF v s).num 1 &&& 1=0))).rd 2)
theorem Ts.ext9 {s t:Ts} (h1:s.l=t.l) (h2:s.e=t.e) (h3:s.b=t.b):s=t:=by
 cases s;cases t;simp only at h1 h2 h3;subst h1 h2 h3
 rfl
theorem conX_le (v:Int) (s:Ts):(conX v s).l=(conS v s).l∧(conX v s).e=(conS v s).e:=⟨rfl,rfl⟩
theorem sec_le {s t:Ts} (v:Int) (h1:s.l=t.l) (h2:s.e=t.e):s.sec v=t.sec v∧(s.rdS v).l=(t.rdS v).l∧(s.rdS v).e=(t.rdS v).e∧(s.rdS v).b=(s.b||(if v=4 then false else !(takeR s.l s.e).2)):=by
 unfold Ts.sec Ts.rdS;rw[h1,h2]
 split
 ·exact ⟨rfl,h1,h2,by simp⟩
 ·exact ⟨rfl,rfl,rfl,rfl⟩
theorem txt_le {s t:Ts} (h1:s.l=t.l) (h2:s.e=t.e):s.bin=t.bin∧s.rdT.l=t.rdT.l∧s.rdT.e=t.rdT.e∧s.rdB.l=t.rdB.l∧s.rdB.e=t.rdB.e∧s.rdT.b=(s.b||!okText t.bin):=by
 obtain ⟨l,e,b⟩:=s;obtain ⟨l2,e2,b2⟩:=t;simp only at h1 h2;subst h1 h2;exact ⟨rfl,rfl,rfl,rfl,rfl,rfl⟩
theorem conB_eq {v:Int} {s:Ts}:conB v s=((conX v s).b||(decide ((s.rdB.rd 1).num 1 &&& 4=0)&&!decide ((s.rdB.rd 1).num 1 &&& 56=0))):=by
 have hb:=bits1 _ (n1_lt (s.rdB.rd 1));have e1:(conX v s).b=(((s.b||!decide (s.bin=mqtt))||!decide ((s.rdB.num 1:Int)=v))||!decide ((s.rdB.rd 1).num 1 &&& 1=0)):=rfl;rw[e1];unfold conB;rw[hb.1];generalize (((s.b||!decide (s.bin=mqtt))||!decide ((s.rdB.num 1:Int)=v))||!decide ((s.rdB.rd 1).num 1 &&& 1=0))=x;cases h:decide ((s.rdB.rd 1).num 1 &&& 4=0)
 ·simp
 ·rw[hb.2.1 h];simp
theorem up_eq (f:Nat) (p:Pk) (s:Ts):passD (userD { p with hasUser:=!decide (f &&& 128=0),hasPass:=!decide (f &&& 64=0) } s).1 (userD { p with hasUser:=!decide (f &&& 128=0),hasPass:=!decide (f &&& 64=0) } s).2=passK f (userK f p s).1 (userK f p s).2:=by
 unfold userD userK passD passK;generalize (!decide (f &&& 128=0))=hu;generalize (!decide (f &&& 64=0))=hp;cases hu<;>cases hp<;>rfl
theorem up_st (p q:Pk) (s:Ts) (h1:p.hasUser=q.hasUser) (h2:p.hasPass=q.hasPass):(passD (userD p s).1 (userD p s).2).2=(passD (userD q s).1 (userD q s).2).2:=by
 unfold userD passD;rw[h1];cases h:q.hasUser<;>simp only[Bool.false_eq_true,if_true,if_false]<;>rw[h2]<;>cases h3:q.hasPass<;>rfl
theorem up_b (p:Pk) (s:Ts) (h:s.b=true):(passD (userD p s).1 (userD p s).2).2.b=true:=by
 have hT:s.rdT.b=true:=by show (s.b||_)=true;rw[h];rfl
 unfold userD passD;cases p.hasUser<;>simp only[Bool.false_eq_true,if_true,if_false]<;>split<;>first|exact h|exact hT
def conQ (v:Int) (s:Ts):Pk:={ zk 1 with clean:=!decide ((s.rdB.rd 1).num 1 &&& 2=0),keep:=((s.rdB.rd 1).rd 1).num 2,props:=(conX v s).sec v,client:=((conX v s).rdS v).bin }
theorem connK_eq (v:Int) (s:Ts):connK v s=passK ((s.rdB.rd 1).num 1) (userK ((s.rdB.rd 1).num 1) (willK v ((s.rdB.rd 1).num 1) (conQ v s) ((conX v s).rdS v).rdT).1 (willK v ((s.rdB.rd 1).num 1) (conQ v s) ((conX v s).rdS v).rdT).2).1 (userK ((s.rdB.rd 1).num 1) (willK v ((s.rdB.rd 1).num 1) (conQ v s) ((conX v s).rdS v).rdT).1 (willK v ((s.rdB.rd 1).num 1) (conQ v s) ((conX v s).rdS v).rdT).2).2:=rfl
theorem connD_eq (v:Int) (s:Ts):connD v s=passD (userD (willD v ((s.rdB.rd 1).num 1) (conP v s) ((conS v s).rdS v).rdT).1 (willD v ((s.rdB.rd 1).num 1) (conP v s) ((conS v s).rdS v).rdT).2).1 (userD (willD v ((s.rdB.rd 1).num 1) (conP v s) ((conS v s).rdS v).rdT).1 (willD v ((s.rdB.rd 1).num 1) (conP v s) ((conS v s).rdS v).rdT).2).2:=rfl
theorem conP_eq (v:Int) (s:Ts):conP v s={ conQ v s with hasWill:=!decide ((s.rdB.rd 1).num 1 &&& 4=0),hasUser:=!decide ((s.rdB.rd 1).num 1 &&& 128=0),hasPass:=!decide ((s.rdB.rd 1).num 1 &&& 64=0),willQoS:=(s.rdB.rd 1).num 1 / 8 &&& 3,willRetain:=!decide ((s.rdB.rd 1).num 1 &&& 32=0) }:=by
 have h1:=sec_le (s:=conS v s) (t:=conX v s) v rfl rfl;have h2:=txt_le h1.2.1 h1.2.2.1;unfold conP conQ;rw[h1.1,h2.1]
theorem conn_rel (v:Int) (s:Ts):(connD v s).2=(connK v s).2∧((connD v s).2.b=false→(connD v s).1=(connK v s).1):=by
 have hf:(s.rdB.rd 1).num 1 < 256:=n1_lt _;have hcb:=conB_eq (v:=v) (s:=s);have hle:=conX_le v s;rw[connK_eq,connD_eq,conP_eq];have hSb:(conS v s).b=conB v s:=rfl;generalize (s.rdB.rd 1).num 1=f at *;rcases (Bool.eq_false_or_eq_true (decide (f &&& 4=0))).symm with h4|h4
 ·skip
  have e:conS v s=conX v s:=Ts.ext9 hle.1.symm hle.2.symm (by rw[hSb,hcb,h4];simp);have h4':(!decide (f &&& 4=0))=true:=by rw[h4];rfl
  rw[e];unfold willD willK;rw[if_pos h4',if_pos h4']
  have:=up_eq f { conQ v s with hasWill:=!decide (f &&& 4=0),willQoS:=f / 8 &&& 3,willRetain:=!decide (f &&& 32=0),willProps:=((conX v s).rdS v).rdT.sec v,willTopic:=(((conX v s).rdS v).rdT.rdS v).bin,willLoad:=(((conX v s).rdS v).rdT.rdS v).rdT.bin } ((((conX v s).rdS v).rdT.rdS v).rdT.rdB)
  exact ⟨congrArg Prod.snd this,fun _=>congrArg Prod.fst this⟩
 ·skip
  have h4':¬ (!decide (f &&& 4=0))=true:=by rw[h4];decide
  unfold willD willK;rw[if_neg h4',if_neg h4'];have h1:=sec_le (s:=conS v s) (t:=conX v s) v rfl rfl;have h1':=sec_le (s:=conX v s) (t:=conX v s) v rfl rfl;have h2:=txt_le h1.2.1 h1.2.2.1;have h2':=txt_le (s:=(conX v s).rdS v) (t:=(conX v s).rdS v) rfl rfl
  have e:((conS v s).rdS v).rdT=(((conX v s).rdS v).rdT).need (decide (f &&& 56=0)):=by
   refine Ts.ext9 h2.2.1 h2.2.2.1 ?_;show ((conS v s).rdS v).rdT.b=(((conX v s).rdS v).rdT.b||!decide (f &&& 56=0));rw[h2.2.2.2.2.2,h2'.2.2.2.2.2,h1.2.2.2,h1'.2.2.2,hSb,hcb,h4];rw[show (conS v s).l=(conX v s).l from rfl,show (conS v s).e=(conX v s).e from rfl];generalize (conX v s).b=a;generalize (!decide (f &&& 56=0))=b;generalize (if v=4 then false else !(takeR (conX v s).l (conX v s).e).2)=c;generalize (!okText ((conX v s).rdS v).bin)=d;cases a<;>cases b<;>cases c<;>cases d<;>rfl
  rw[e];have hq:=up_eq f { conQ v s with hasWill:=!decide (f &&& 4=0) } ((((conX v s).rdS v).rdT).need (decide (f &&& 56=0)));have hs:=up_st { conQ v s with hasWill:=!decide (f &&& 4=0),hasUser:=!decide (f &&& 128=0),hasPass:=!decide (f &&& 64=0),willQoS:=f / 8 &&& 3,willRetain:=!decide (f &&& 32=0) } { conQ v s with hasWill:=!decide (f &&& 4=0),hasUser:=!decide (f &&& 128=0),hasPass:=!decide (f &&& 64=0) } ((((conX v s).rdS v).rdT).need (decide (f &&& 56=0))) rfl rfl;refine ⟨hs.trans (congrArg Prod.snd hq),fun hb=>?_⟩;rcases (Bool.eq_false_or_eq_true (decide (f &&& 56=0))).symm with h5|h5
  ·skip
   have:=up_b { conQ v s with hasWill:=!decide (f &&& 4=0),hasUser:=!decide (f &&& 128=0),hasPass:=!decide (f &&& 64=0),willQoS:=f / 8 &&& 3,willRetain:=!decide (f &&& 32=0) } ((((conX v s).rdS v).rdT).need (decide (f &&& 56=0))) (by show (_||!decide (f &&& 56=0))=true;rw[h5];simp)
   have hb':=this.symm.trans hb;cases hb'
  ·skip
   have hw:=(bits1 f hf).2.2 h5;rw[hw.1,hw.2];exact congrArg Prod.fst hq
theorem hd_kind (l:List UInt8):0≤(headB l).kind:=by
 unfold headB
 split
 ·exact Int.natCast_nonneg _
 ·exact Int.le_refl _
theorem bits16:∀ f:Nat,f < 16→(decide (f % 2=1) = !decide (f &&& 1=0))∧(f / 2 % 4=(f / 2 &&& 3))∧(decide (8≤f) = !decide (f &&& 8=0)):=by decide +kernel
theorem lt9 (n:Nat):decide (1 < n)=(false||!decide (n≤1)):=by rw[Bool.false_or,← decide_not];exact decide_eq_decide.2 (by omega)
theorem flags_zk (k:Int):flagsN (zk k)=if k=3 then 0 else if k=6∨k=8∨k=10 then 2 else 0:=by
 unfold flagsN;show (if k=3 then _ else if k=6∨k=8∨k=10 then 2 else 0)=_
 split
 ·rfl
 ·rfl
theorem headOk_eq (v:Int) (h:Hd) (hk:0≤h.kind):headOk v h=decide ((v=4∨v=5)∧1≤h.kind∧¬ (v=4∧h.kind=15)∧(h.kind=3∨h.flags=flagsN (zk h.kind))):=by
 unfold headOk;rw[flags_zk]
 grind
theorem filt_len (k:Int) (n:Nat) (S:Ts):(filtK k n S).1.length≤n:=(filt_ok k n S).1
theorem conn_fi (v:Int) (S:Ts):(connK v S).1.filters=[]:=by
 unfold connK passK userK willK;dsimp only
 repeat' split
 all_goals rfl
theorem short_fi (v:Int) (p:Pk) (S:Ts):(shortK v p S).1.filters=p.filters:=by
 unfold shortK
 repeat' split
 all_goals rfl
theorem fields_fi (v k:Int) (f:Nat) (S:Ts):(fieldsK v k f S).1.filters.length≤S.l.length:=by
 unfold fieldsK
 split
 ·rw[conn_fi];exact Nat.zero_le _
 split
 ·exact Nat.zero_le _
 split
 ·exact Nat.zero_le _
 split
 ·rw[short_fi];exact Nat.zero_le _
 split
 ·exact Nat.le_trans (filt_len k _ _) (Nat.le_trans (rdS_le _ _) (rd_le _ _))
 split
 ·exact Nat.zero_le _
 split
 ·rw[short_fi];exact Nat.zero_le _
 ·exact Nat.zero_le _
theorem filtersN_le9 (k:Int):∀ (L:List Fi),(∀ f∈L,f.text.size≤100000)→filtersN k L≤L.length * 100003
 | [],_=>by simp[filtersN]
 | f :: L,h=>by
  have h1:=filtersN_le9 k L (fun g hg=>h g (List.mem_cons_of_mem _ hg));have h2:=h f (List.mem_cons_self ..);simp only[filtersN,List.length_cons]
  split<;>omega
theorem secN_ok {v:Int} {L:List Pr} (h:Lok L):secN v L≤100001:=by
 have:=h.s
 unfold secN
 split<;>omega
theorem rest9 {v:Int} {l:List UInt8} (hl:l.length≤2400):restN v (formP v l)≤268435455:=by
 have h:=ok9_form (v:=v) (l:=l) (by omega)
 have hf:(formP v l).filters.length≤2400:=by
  unfold formP
  split
  ·refine Nat.le_trans (fields_fi _ _ _ _) ?_
   simp only[List.length_drop];omega
  ·exact Nat.zero_le _
 generalize formP v l=p at *;have s1:=secN_ok (v:=v) h.props;have s2:=secN_ok (v:=v) h.wprops;have h1:=h.client;have h2:=h.willTopic;have h3:=h.willLoad;have h4:=h.user;have h5:=h.pass;have h6:=h.topic;have h7:=h.load;have h9:=h.nc;have hF:=filtersN_le9 p.kind p.filters (fun f hf=>(h.tf f hf).2);have hS:shortN v p≤100002:=by unfold shortN;(repeat' split)<;>omega
 have hC:connectN v p≤2000000:=by unfold connectN;(repeat' split)<;>omega
 unfold restN
 repeat' split
 all_goals omega
structure Lm where
 rc:Int
 al:Int
 sz:Int
 q:Int
 rt:Bool
 wi:Bool
 nu:Bool
 sh:Bool
deriving DecidableEq
abbrev Lm.li (l:Lm):List Value:=[.int .u16 l.rc,.int .u16 l.al,.int .i64 l.sz,.int .u8 l.q,.bool l.rt,.bool l.wi,.bool l.nu,.bool l.sh]
def Lm.std:Lm:=⟨65535,0,268435460,2,true,true,true,true⟩
def numL (L:List Pr) (i o:Nat):Nat:=((getL L i).map Pr.n).getD o
def w16 (n:Nat):Int:=(n:Int) % 65536
def w8 (n:Nat):Int:=(n:Int) % 256
def wI (n:Nat):Int:=(n:Int)
def stepL (l:Lm) (x:Pr):Lm :=
 if x.id=33 then { l with rc:=w16 x.n } else if x.id=34 then { l with al:=w16 x.n } else if x.id=39 then { l with sz:=wI x.n } else
 if x.id=36 then { l with q:=w8 x.n } else if x.id=37 then { l with rt:=x.n != 0 } else if x.id=40 then { l with wi:=x.n != 0 } else
 if x.id=41 then { l with nu:=x.n != 0 } else if x.id=42 then { l with sh:=x.n != 0 } else l
def ofP (v:Int) (p:Pk):Lm:=if v=5∧(p.kind=1∨p.kind=2)∧rightP v p=true then p.props.foldl stepL .std else .std
def three (L:List Pr):Lm:=⟨w16 (numL L 33 65535),w16 (numL L 34 0),wI (numL L 39 268435460),2,true,true,true,true⟩
set_option maxHeartbeats 8000000
abbrev rrB (r:Nat) (B:ByteArray) (at_:Nat) (e:Int):Bl:=⟨r,171,[.string B,.int .i64 at_,.int .i64 e]⟩
structure RrK (B:ByteArray) (at_:Nat) (l:List UInt8) (e:Int):Prop where
 le:at_≤B.size
 sm:B.size≤140737000000000
 ok:e=0→l=B.data.toList.drop at_
 bad:e≠0→l=[]
theorem Tr.rr {f : Nat} {fn : Func} {args : List Value} {c : World} {r at_ : Nat} {B : ByteArray} {l l' : List UInt8} {e e' : Int} {v : Value} (hf : Tryz.prog.funcs[f]? = some fn) (h : RrK B at_ l e) (old : ∀ w, RefR w r B l e → Calls Tryz.prog f args.toArray w fun ed w' => ed = .returned v ∧ RAfter w w' r B l' e') (hb : fn.body.isNone = false := by rfl) (hg : (fn.name == "runtime.NumGoroutine") = false := by kernel_rfl) :
  Tr Tryz.prog f args c [rrB r B at_ e] [] (fun _=>v) (fun _=>c) (fun x:Nat=>[rrB r B x e']) (fun _=>[]) (fun x=>RrK B x l' e') :=
 ⟨fun args w=>gx_fn hf hg hb args w,fun κ w S=>(old w ⟨at_,S.m _ (List.mem_singleton_self _),h.le,h.sm,h.ok,h.bad⟩).mono fun ed w' ⟨h1,h2⟩=>by
  obtain ⟨x,hB,h3,h4,h5,h6⟩:=h2.rdr;exact ⟨x,h1,⟨h3,h4,h5,h6⟩,S.sub.setl (A:=[]) (M1:=[]) h2.kept hB⟩⟩
section
variable {c:World} {r at_:Nat} {B:ByteArray} {l:List UInt8} {e:Int}
theorem rr_num (n:Int) (h0:0≤n) (h4:n≤4) (h:RrK B at_ l e):Tr Tryz.prog 106 [pt r,.int .i64 n] c [rrB r B at_ e] [] (fun _=>.int .u64 (num (taken n l e))) (fun _=>c) (fun x:Nat=>[rrB r B x (leftE n l e)]) (fun _=>[]) (fun x=>RrK B x (leftL n l e) (leftE n l e)):=Tr.rr Tryz.func106 h fun w hr=>rnum_any w r B l e n hr h0 h4
theorem rr_var (h:RrK B at_ l e):Tr Tryz.prog 121 [pt r] c [rrB r B at_ e] [] (fun _=>.int .u32 (rv 4 0 0 l e).1) (fun _=>c) (fun x:Nat=>[rrB r B x (rv 4 0 0 l e).2.2]) (fun _=>[]) (fun x=>RrK B x (rv 4 0 0 l e).2.1 (rv 4 0 0 l e).2.2):=Tr.rr Tryz.func121 h fun w hr=>refvar_any w r B l e hr
theorem rr_bin (h:RrK B at_ l e):Tr Tryz.prog 157 [pt r] c [rrB r B at_ e] [] (fun _=>.string ⟨(binTaken l e).toArray⟩) (fun _=>c) (fun x:Nat=>[rrB r B x (binE l e)]) (fun _=>[]) (fun x=>RrK B x (binL l e) (binE l e)):=Tr.rr Tryz.func157 h fun w hr=>refbin_any w r B l e hr
theorem rr_rest (h:RrK B at_ l e):Tr Tryz.prog 109 [pt r] c [rrB r B at_ e] [] (fun _=>.string ⟨l.toArray⟩) (fun _=>c) (fun x:Nat=>[rrB r B x e]) (fun _=>[]) (fun x=>RrK B x [] e):=Tr.rr (l':=[]) Tryz.func109 h fun w hr=>refrest_any w r B l e hr
theorem rr_left (h:RrK B at_ l e):Tr Tryz.prog 111 [pt r] c [rrB r B at_ e] [] (fun _=>.int .i64 l.length) (fun _=>c) (fun x:Nat=>[rrB r B x e]) (fun _=>[]) (fun x=>RrK B x l e):=Tr.rr Tryz.func111 h fun w hr=>rleft_any w r B l e hr
theorem ck_rHead {a:Option Addr} {n:Nat} {l:List UInt8} (hr:Row c a (B8 l)) (hn:a=none→n=0) (hl:l.length≤140737000000000):Ck Tryz.prog 56 [.slice a l.length n] c (.tuple #[(headB l).val,.int .i64 (headE l)]):=by
 obtain ⟨e1,e2⟩:=head_full l;have m1:=num_le 1 l 0 1 (by omega);have h0:RrK ⟨l.toArray⟩ 0 l 0:=⟨Nat.zero_le _,by show l.toArray.size≤_;simpa using hl,fun _=>by simp,fun h=>absurd rfl h⟩
 refine Ck.in Tryz.func56 ?_;refine go ?_;refine vA fun b0=>?_
 refine go ?_;refine vA fun b1=>?_
 refine go ?_;refine vt1a (rr_num 1 (by decide) (by decide) h0) fun x1 h1=>?_
 refine vq ?_;refine go ?_;refine vt1a (rr_var h1) fun x2 h2=>?_
 have e3:rv 4 0 0 (leftL 1 l 0) (leftE 1 l 0)=headS l:=rfl;rw[e3]at h2 ⊢;have m2:=headS_lt l
 by_cases he:(headS l).2.2=0
 ·have h3:=h2.ok he
  have h4:(headS l).2.1.length=l.length - x2:=by rw[h3,List.length_drop]
  have h5:x2≤l.length:=h2.le;rw[e2 he,e1,he]
  repeat' first|refine go ?_|refine vq ?_|fail
  refine vrv2 ?_;rw[show (l.length:Int) - ((headS l).2.1.length:Int)=(x2:Int) by omega];simp[Hd.val]
 ·have e4:headB l=⟨0,0,0,0⟩:=if_neg (fun q=>he (e1▸(show headE l=0 from q)))
  rw[e4,e1];refine go ?_;refine vh [0] ?_;refine vqbu 0 ?_;refine go ?_;exact vrv2 rfl
end
abbrev dtB (t r:Nat) (v:Int) (b:Bool):Bl:=⟨t,173,[pt r,.int .i64 v,.bool b]⟩
structure Pn (n:World) (p:Pk) (s:Sl):Prop where
 w:Nw n s.wa (PC p.willProps)
 f:Nw n s.fa (FC p.filters)
 c:Nw n s.ca (B8 p.codes)
 p:Nw n s.pa (PC p.props)
theorem Pn.le {n m:World} {p:Pk} {s:Sl} (h:Pn m p s) (k:Le n m):Pn n p s:=⟨h.w.le k,h.f.le k,h.c.le k,h.p.le k⟩
theorem Pn.zk (c:World) (k:Int) (s:Sl):Pn c (zk k) s:=⟨.nil _ _,.nil _ _,.nil _ _,.nil _ _⟩
section
variable {c:World} {t r at_:Nat} {v:Int} {B:ByteArray} {s:Ts}
theorem tr_dtext (h:RrK B at_ s.l s.e):Tr Tryz.prog 108 [pt t] c [dtB t r v s.b,rrB r B at_ s.e] [] (fun _=>.string s.bin) (fun _=>c) (fun x:Nat=>[dtB t r v s.rdT.b,rrB r B x s.rdT.e]) (fun _=>[]) (fun x=>RrK B x s.rdT.l s.rdT.e):=by
 have c1:=ck_rright (c:=c) (s:=s.bin) (by have:=bin9_le s;omega);have h1:=rr_bin (c:=c) (r:=r) h;have e1:(⟨(binTaken s.l s.e).toArray⟩:ByteArray)=s.bin:=rfl;rw[e1]at h1;have e2:s.rdT.b=(s.b||!okText s.bin):=rfl;refine Tr.in Tryz.func108 ?_;refine go ?_;refine vt1b h1 fun x hx=>?_
 cases hb:s.b with
 | true =>
  rw[hb]at e2;rw[e2];refine go ?_;exact vrt x hx
 | false =>
  rw[hb]at e2;rw[e2];cases hk:okText s.bin with
  | true =>
   rw[hk]at c1;refine go ?_;exact vrt x hx
  | false =>
   rw[hk]at c1;refine go ?_;exact vrt x hx
structure RkX where
 i:Nat
 b:Option Addr
 bp:Nat
 c:World
theorem rr_take {l:List UInt8} {e:Int} (h:RrK B at_ l e) (hl:l.length≤100000):Tr Tryz.prog 159 [pt r] c [rrB r B at_ e] [] (fun x:RkX=>.tuple #[.slice x.b (takeR l e).1.length x.bp,.bool (takeR l e).2]) (fun x=>x.c) (fun x=>[rrB r B x.i (takeErr l e)]) (fun _=>[])
  (fun x=>Le c x.c∧RrK B x.i (takeLeft l e) (takeErr l e)∧Row x.c x.b (PC (takeR l e).1)∧(x.b=none→x.bp=0)∧Nw c x.b (PC (takeR l e).1)) :=
 ⟨fun args w=>gx_fn Tryz.func159 (by kernel_rfl) rfl args w,fun κ w S=>(rtake6_own w r B l e ⟨at_,S.m _ (List.mem_singleton_self _),h.le,h.sm,h.ok,h.bad⟩ hl).mono fun ed w' ⟨b,bp,h1,h2,h3⟩=>by
  obtain ⟨x,hB,g3,g4,g5,g6⟩:=h3.rdr;have h5:=S.sub.setl (A:=[]) (M1:=[]) h3.kept hB
  obtain ⟨l1,l2⟩:=h5.learn (G:=fun g=>(Value.slice b (takeR l e).1.length bp).ownBlock=some g) (fun g hg ho=>by
   have h6:=(h2.lt g hg).1;have h7:=S.lt (g:=g) (by rcases ho with ⟨y,hy,rfl⟩|⟨y,hy,_⟩;(rw[List.mem_singleton.1 hy];exact .inl ⟨_,List.mem_singleton_self _,rfl⟩);cases hy);omega) (fun g hg=>.inr (h2.lt g hg).1) (fun g hg=>.inl (Nat.le_trans S.le.size (h2.lt g hg).1))
  have h8:=own_learn (c:=c) h2;exact ⟨⟨x,b,bp,_⟩,h1,⟨l1,⟨g3,g4,g5,g6⟩,h8.row,h8.nil,own_nw h2 S.le.size⟩,l2⟩⟩
theorem tr_dsec (h:RrK B at_ s.l s.e) (hl:s.l.length≤100000):Tr Tryz.prog 107 [pt t] c [dtB t r v s.b,rrB r B at_ s.e] [] (fun x:RkX=>.slice x.b (s.sec v).length x.bp) (fun x=>x.c) (fun x=>[dtB t r v (s.rdS v).b,rrB r B x.i (s.rdS v).e]) (fun _=>[])
  (fun x=>Le c x.c∧RrK B x.i (s.rdS v).l (s.rdS v).e∧Row x.c x.b (PC (s.sec v))∧(x.b=none→x.bp=0)∧Nw c x.b (PC (s.sec v))):=by
 refine Tr.in Tryz.func107 ?_
 by_cases h4:v=4
 ·rw[show s.rdS v=s from if_pos h4,show s.sec v=[] from if_pos h4]
  refine go ?_;exact vrt (RkX.mk at_ none 0 c) ⟨Le.refl c,h,.nil _ _,fun _=>rfl,.nil _ _⟩
 ·rw[show s.rdS v=Ts.need ⟨takeLeft s.l s.e,takeErr s.l s.e,s.b⟩ (takeR s.l s.e).2 from if_neg h4,show s.sec v=(takeR s.l s.e).1 from if_neg h4]
  refine go ?_;refine vt1b (rr_take h hl) fun x hx=>?_
  dsimp only [Ts.need];cases hb:s.b with
  | true =>
   refine go ?_;exact vrt x hx
  | false =>
   refine go ?_;exact vrt x hx
abbrev pdB (q:Nat) (p:Pk) (s:Sl):Bl:=⟨q,39,p.li s⟩
structure DpX where
 i:Nat
 sl:Sl
 c:World
abbrev Dp (f:Nat) (args:List Value) (c:World) (t r q:Nat) (v:Int) (B:ByteArray) (at_:Nat) (s:Ts) (p:Pk) (sl:Sl) (res:Pk × Ts):Prop:=Tr Tryz.prog f (pt t :: pt q :: args) c [dtB t r v s.b,rrB r B at_ s.e,pdB q p sl] [] (fun _:DpX=>.tuple #[]) (fun x=>x.c) (fun x=>[dtB t r v res.2.b,rrB r B x.i res.2.e,pdB q res.1 x.sl]) (fun _=>[])
 (fun x=>Le c x.c∧RrK B x.i res.2.l res.2.e∧res.1.At x.sl x.c∧(x.sl.ca=none→x.sl.cc=0)∧∀ n,Le n c→Pn n p sl→Pn n res.1 x.sl)
theorem dp_code {q:Nat} {p:Pk} {sl:Sl} (h:RrK B at_ s.l s.e) (hl:s.l.length≤100000) (hp:p.At sl c) (hs:sl.ca=none→sl.cc=0):Dp 110 [] c t r q v B at_ s p sl (shortK v p s):=by
 have h1:=rd_len 1 s;have h9:Go.Proofs.YtohmcfmcbibbcaaGreatDoor.num (taken 1 s.l s.e) < 256:=n1_lt s;refine Tr.in Tryz.func110 ?_
 by_cases h4:v=4
 ·have e:shortK v p s=(p,s):=if_pos (.inl h4)
  rw[e];refine go ?_;exact vrt0 (DpX.mk at_ sl c) ⟨Le.refl c,h,hp,hs,fun _ _ k=>k⟩
 ·refine go ?_
  refine vt1b (rr_left h) fun x1 g1=>?_
  by_cases h0:s.l.length=0
  ·have e:shortK v p s=(p,s):=if_pos (.inr h0)
   rw[e];refine go ?_;exact vrt0 (DpX.mk x1 sl c) ⟨Le.refl c,g1,hp,hs,fun _ _ k=>k⟩
  ·refine go ?_
   refine vt1b (rr_num 1 (by decide) (by decide) g1) fun x2 g2=>?_
   refine vq ?_;refine go ?_;refine vt1b (rr_left g2) fun x3 g3=>?_
   by_cases h2:(leftL 1 s.l s.e).length=0
   ·have e:shortK v p s=({ p with code:=s.num 1 },s.rd 1):=(if_neg (by omega)).trans (if_pos h2)
    rw[e];refine go ?_;exact vrt0 (DpX.mk x3 sl c) ⟨Le.refl c,g3,⟨hp.hw,hp.hf,hp.hc,hp.hp⟩,hs,fun _ _ k=>⟨k.w,k.f,k.c,k.p⟩⟩
   ·have e:shortK v p s=({ p with code:=s.num 1,props:=(s.rd 1).sec v },(s.rd 1).rdS v):=(if_neg (by omega)).trans (if_neg h2)
    rw[e];refine go ?_;refine vt20 (tr_dsec (s:=s.rd 1) (v:=v) g3 (by omega)) fun x g4=>?_
    refine go ?_;exact vrt0 (DpX.mk x.i { sl with pa:=x.b,pc:=x.bp } x.c) ⟨g4.1,g4.2.1,⟨hp.hw.le g4.1,hp.hf.le g4.1,hp.hc.le g4.1,g4.2.2.1⟩,hs,fun _ k9 k=>⟨k.w,k.f,k.c,g4.2.2.2.2.le k9⟩⟩
end
end Go.Proofs.YtohmcfmcbibbcaaGreatDoor
