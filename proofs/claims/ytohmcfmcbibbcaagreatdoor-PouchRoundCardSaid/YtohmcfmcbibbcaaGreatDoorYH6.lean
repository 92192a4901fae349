import Derived.Test.YtohmcfmcbibbcaaGreatDoorYH5
import Derived.Test.YtohmcfmcbibbcaaGreatDoorYF8
import Derived.Test.YtohmcfmcbibbcaaGreatDoorYF3
import Derived.Test.YtohmcfmcbibbcaaGreatDoorYF7
import Derived.Test.YtohmcfmcbibbcaaGreatDoorYF1
namespace Go.Proofs.YtohmcfmcbibbcaaGreatDoor
open Go.RowKit
set_option linter.unusedVariables false
set_option linter.unusedSimpArgs false
set_option maxRecDepth 100000
def by1 (n:Nat):List UInt8:=[byteOf (n:Int)]
def by2 (n:Nat):List UInt8:=[byteOf ((n:Int) / 256),byteOf ((n:Int) % 256)]
def bitN (b:Bool) (n:Nat):Nat:=if b then n else 0
def mqtt:ByteArray:=⟨#[77,81,84,84]⟩
def flagsN (p:Pk):Nat:=if p.kind=3 then bitN p.retain 1+2 * p.qos+bitN p.dup 8 else if p.kind=6∨p.kind=8∨p.kind=10 then 2 else 0
def conFlN (p:Pk):Nat:=bitN p.clean 2+bitN p.hasWill 4+8 * p.willQoS+bitN p.willRetain 32+bitN p.hasPass 64+bitN p.hasUser 128
def secB (v:Int) (L:List Pr):List UInt8:=if v=4 then [] else putL [] L
def shortB (v:Int) (p:Pk):List UInt8:=if v=4∨(p.code=0∧p.props.length=0) then [] else if p.props.length=0 then by1 p.code else by1 p.code++secB v p.props
def filtB (k:Int):List Fi→List UInt8
 | []=>[]
 | f :: l=>binBy f.text++(if k=8 then by1 f.opt else [])++filtB k l
def connB (v:Int) (p:Pk):List UInt8 :=
 binBy mqtt++by1 v.toNat++by1 (conFlN p)++by2 p.keep++secB v p.props++binBy p.client++(if p.hasWill=true then secB v p.willProps++binBy p.willTopic++binBy p.willLoad else [])++(if p.hasUser=true then binBy p.user else [])++(if p.hasPass=true then binBy p.pass else [])
def publB (v:Int) (p:Pk):List UInt8:=binBy p.topic++(if p.qos=0 then [] else by2 p.id)++secB v p.props++p.load.data.toList
def behB (v:Int) (p:Pk):List UInt8 :=
 if p.kind=1 then connB v p
 else if p.kind=2 then by1 (bitN p.present 1)++by1 p.code++secB v p.props
 else if p.kind=3 then publB v p
 else if p.kind=4∨p.kind=5∨p.kind=6∨p.kind=7 then by2 p.id++shortB v p
 else if p.kind=8∨p.kind=10 then by2 p.id++secB v p.props++filtB p.kind p.filters
 else if p.kind=9∨p.kind=11 then by2 p.id++secB v p.props++p.codes
 else if p.kind=14∨p.kind=15 then shortB v p
 else []
def encB (v:Int) (p:Pk):List UInt8:=by1 (16 * p.kind.toNat+flagsN p)++varL (behB v p).length++behB v p
theorem b1_len (n:Nat):(by1 n).length=1:=rfl
theorem b2_len (n:Nat):(by2 n).length=2:=rfl
theorem binBy_len (s:ByteArray):(binBy s).length=2+s.size:=by
 simp[binBy];omega
theorem secB_len (v:Int) (L:List Pr) (h:∀ p∈L,p.wf'):(secB v L).length=secN v L:=by
 unfold secB secN putL sizeR
 split
 ·rfl
 ·split
  ·rename_i n hn
   have:=(lenGo_some L 0 n h hn (by omega)).2.1
   simp[addVar];omega
  ·rfl
theorem shortB_len (v:Int) (p:Pk) (h:∀ x∈p.props,x.wf'):(shortB v p).length=shortN v p:=by
 unfold shortB shortN
 split
 ·rfl
 ·split
  ·rfl
  ·simp[b1_len,secB_len v p.props h]
theorem filtB_len (k:Int):∀ L:List Fi,(filtB k L).length=filtersN k L
 | []=>rfl
 | f :: l=>by
  simp only[filtB,filtersN,List.length_append,binBy_len,filtB_len k l]
  split<;>simp[b1_len]
theorem connB_len (v:Int) (p:Pk) (h:∀ x∈p.props,x.wf') (h2:∀ x∈p.willProps,x.wf'):(connB v p).length=connectN v p:=by
 unfold connB connectN;simp only[List.length_append,b1_len,b2_len,binBy_len,secB_len v p.props h];have e:mqtt.size=4:=rfl;rw[e];cases p.hasWill<;>cases p.hasUser<;>cases p.hasPass<;>simp[binBy_len,secB_len v p.willProps h2]<;>omega
theorem behB_len (v:Int) (p:Pk) (h:Wf p):(behB v p).length=restN v p:=by
 have h1:=h.p;have h2:=h.w;unfold behB restN
 by_cases k1:p.kind=1
 ·rw[if_pos k1,if_pos k1];exact connB_len v p h1 h2
 rw[if_neg k1,if_neg k1]
 by_cases k2:p.kind=2
 ·rw[if_pos k2,if_pos k2];simp only[List.length_append,b1_len,secB_len v p.props h1]
 rw[if_neg k2,if_neg k2]
 by_cases k3:p.kind=3
 ·rw[if_pos k3,if_pos k3]
  unfold publB;simp only[List.length_append,binBy_len,secB_len v p.props h1];have e:p.load.data.toList.length=p.load.size:=by rw[Array.length_toList];rfl
  rw[e]
  by_cases q:p.qos=0
  ·rw[if_pos q,if_pos q];rfl
  ·rw[if_neg q,if_neg q,b2_len]
 rw[if_neg k3,if_neg k3]
 by_cases k4:p.kind=4∨p.kind=5∨p.kind=6∨p.kind=7
 ·rw[if_pos k4,if_pos k4];simp only[List.length_append,b2_len,shortB_len v p h1]
 rw[if_neg k4,if_neg k4]
 by_cases k8:p.kind=8∨p.kind=10
 ·rw[if_pos k8,if_pos k8];simp only[List.length_append,b2_len,secB_len v p.props h1,filtB_len]
 rw[if_neg k8,if_neg k8]
 by_cases k9:p.kind=9∨p.kind=11
 ·rw[if_pos k9,if_pos k9];simp only[List.length_append,b2_len,secB_len v p.props h1]
 rw[if_neg k9,if_neg k9]
 by_cases k14:p.kind=14∨p.kind=15
 ·rw[if_pos k14,if_pos k14];exact shortB_len v p h1
 rw[if_neg k14,if_neg k14];rfl
theorem nameB_le {s:ByteArray} (h:nameB s=true):s.size≤65535:=by
 unfold nameB at h;simp only[Bool.and_eq_true]at h;exact okText_size h.1
structure Ri (v:Int) (p:Pk):Prop where
 hv:v=4∨v=5
 k1:1≤p.kind
 k2:p.kind≤15
 bare:p=bareP p
 qos:p.qos≤2
 wq:p.willQoS≤2
 client:p.client.size≤65535
 user:p.user.size≤65535
 pass:p.pass.size≤65535
 willTopic:p.willTopic.size≤65535
 willLoad:p.willLoad.size≤65535
 topic:p.topic.size≤65535
 filt:∀ f∈p.filters,f.text.size≤65535
 nf:p.filters.length≤1024
 nc:p.codes.length≤1024
 rest:restN v p≤268435455
theorem zk_of {p:Pk} (hb:p=bareP p) (h1:p.kind≠1):p.willQoS=0∧p.client=⟨#[]⟩∧p.user=⟨#[]⟩∧p.pass=⟨#[]⟩∧p.willTopic=⟨#[]⟩∧p.willLoad=⟨#[]⟩:=by
 rw[hb];unfold bareP;rw[if_neg h1]
 repeat' split
 all_goals exact ⟨rfl,rfl,rfl,rfl,rfl,rfl⟩
theorem zk_pub {p:Pk} (hb:p=bareP p) (h1:p.kind≠3):p.qos=0∧p.topic=⟨#[]⟩:=by
 rw[hb];unfold bareP
 repeat' split
 all_goals first|exact ⟨rfl,rfl⟩|contradiction
theorem zk_filt {p:Pk} (hb:p=bareP p) (h1:¬ (p.kind=8∨p.kind=10)):p.filters=[]:=by
 rw[hb];unfold bareP
 repeat' split
 all_goals first|rfl|contradiction
theorem zk_cod {p:Pk} (hb:p=bareP p) (h1:¬ (p.kind=9∨p.kind=11)):p.codes=[]:=by
 rw[hb];unfold bareP
 repeat' split
 all_goals first|rfl|contradiction
theorem right_ri {v:Int} {p:Pk} (h:rightP v p=true):Ri v p:=by
 unfold rightP at h;simp only[Bool.and_eq_true,decide_eq_true_eq]at h;obtain ⟨hE,hb,-,hF,hr⟩:=h;obtain ⟨hv,hk1,hk2⟩:=exists_v hE;have e0:(⟨#[]⟩:ByteArray).size=0:=rfl
 have hc:p.willQoS≤2∧p.client.size≤65535∧p.user.size≤65535∧p.pass.size≤65535∧p.willTopic.size≤65535∧p.willLoad.size≤65535:=by
  by_cases h1:p.kind=1
  ·unfold fieldsB at hF
   rw[if_pos h1]at hF;unfold connectB at hF;simp only[Bool.and_eq_true,decide_eq_true_eq]at hF;obtain ⟨q1,q2,q3,q4,-⟩:=hF;refine ⟨?_,okText_size q1,okText_size q2,q3,?_⟩
   ·cases hw:p.hasWill with
    | true=>rw[hw]at q4;simp[willOkB]at q4;exact q4.1
    | false =>
     have:p.willQoS=(bareP p).willQoS:=congrArg Pk.willQoS hb
     rw[this];unfold bareP;rw[if_pos h1,hw];simp
   ·cases hw:p.hasWill with
    | true=>rw[hw]at q4;simp[willOkB]at q4;exact ⟨nameB_le q4.2.1,q4.2.2⟩
    | false =>
     have h8:p.willTopic=(bareP p).willTopic:=congrArg Pk.willTopic hb;have h9:p.willLoad=(bareP p).willLoad:=congrArg Pk.willLoad hb;rw[h8,h9];unfold bareP;rw[if_pos h1,hw];simp[e0]
  ·obtain ⟨a,b,c,d,e,f⟩:=zk_of hb h1
   rw[a,b,c,d,e,f];simp[e0]
 have hp:p.qos≤2∧p.topic.size≤65535:=by
  by_cases h1:p.kind=3
  ·unfold fieldsB at hF
   rw[if_neg (by omega),if_neg (by omega),if_pos h1]at hF;unfold publishB at hF
   split at hF
   ·cases hF
   ·rename_i hq
    refine ⟨by omega,?_⟩
    split at hF
    ·cases hF
    ·split at hF
     ·rename_i h5;omega
     ·exact nameB_le hF
  ·obtain ⟨a,b⟩:=zk_pub hb h1
   rw[a,b];simp[e0]
 have hf:(∀ f∈p.filters,f.text.size≤65535)∧p.filters.length≤1024:=by
  by_cases h1:p.kind=8∨p.kind=10
  ·unfold fieldsB at hF
   rw[if_neg (by omega),if_neg (by omega),if_neg (by omega),if_neg (by omega),if_pos h1]at hF;unfold filtersB at hF;simp only[Bool.and_eq_true,decide_eq_true_eq,List.all_eq_true]at hF;exact ⟨fun f hf=>filterB_size (hF.2.2.2 f hf).1,hF.2.2.1⟩
  ·rw[zk_filt hb h1]
   simp
 have hcd:p.codes.length≤1024:=by
  by_cases h1:p.kind=9∨p.kind=11
  ·unfold fieldsB at hF
   rw[if_neg (by omega),if_neg (by omega),if_neg (by omega),if_neg (by omega),if_neg (by omega),if_pos h1]at hF;unfold codesB at hF;simp only[Bool.and_eq_true]at hF;have hF:=hF.2
   split at hF
   ·have:=of_decide_eq_true hF;omega
   ·simp only[Bool.and_eq_true,decide_eq_true_eq]at hF
    exact hF.2.1
  ·rw[zk_cod hb h1]
   simp
 exact ⟨hv,hk1,hk2,hb,hp.1,hc.1,hc.2.1,hc.2.2.1,hc.2.2.2.1,hc.2.2.2.2.1,hc.2.2.2.2.2,hp.2,hf.1,hf.2,hcd,hr⟩
theorem flagsN_lt {v:Int} {p:Pk} (h:Ri v p):flagsN p≤13:=by
 have:=h.qos
 unfold flagsN bitN
 repeat' split
 all_goals omega
theorem conFlN_lt {v:Int} {p:Pk} (h:Ri v p):conFlN p≤246:=by
 have:=h.wq
 unfold conFlN bitN
 repeat' split
 all_goals omega
structure Ts where
 l:List UInt8
 e:Int
 b:Bool
namespace Ts
def num (n:Int) (s:Ts):Nat:=Go.Proofs.YtohmcfmcbibbcaaGreatDoor.num (taken n s.l s.e)
def rd (n:Int) (s:Ts):Ts:=⟨leftL n s.l s.e,leftE n s.l s.e,s.b⟩
def bin (s:Ts):ByteArray:=⟨(binTaken s.l s.e).toArray⟩
def rdB (s:Ts):Ts:=⟨binL s.l s.e,binE s.l s.e,s.b⟩
def need (s:Ts) (x:Bool):Ts:=⟨s.l,s.e,s.b||!x⟩
def rdT (s:Ts):Ts:=s.rdB.need (okText s.bin)
def sec (v:Int) (s:Ts):List Pr:=if v=4 then [] else (takeR s.l s.e).1
def rdS (v:Int) (s:Ts):Ts:=if v=4 then s else Ts.need ⟨takeLeft s.l s.e,takeErr s.l s.e,s.b⟩ (takeR s.l s.e).2
def rest (s:Ts):ByteArray:=⟨s.l.toArray⟩
def rdR (s:Ts):Ts:=⟨[],s.e,s.b⟩
def ok (s:Ts):Bool:=!s.b&&decide (s.e=0)
end Ts
def shortK (v:Int) (p:Pk) (s:Ts):Pk × Ts :=
 if v=4∨s.l.length=0 then (p,s) else if (s.rd 1).l.length=0 then ({ p with code:=s.num 1 },s.rd 1) else ({ p with code:=s.num 1,props:=(s.rd 1).sec v },(s.rd 1).rdS v)
def filtK (k:Int):Nat→Ts→List Fi × Ts
 | 0,s=>([],s)
 | n+1,s=>if s.ok=true∧0 < s.l.length then
   (⟨s.bin,if k=8 then s.rdT.num 1 else 0⟩ :: (filtK k n (if k=8 then s.rdT.rd 1 else s.rdT)).1,(filtK k n (if k=8 then s.rdT.rd 1 else s.rdT)).2) else ([],s)
theorem filtK_stop {k:Int} {s:Ts} (h:¬ (s.ok=true∧0 < s.l.length)):∀ n,filtK k n s=([],s)
 | 0=>rfl
 | n+1=>if_neg h
theorem filtK_go {k:Int} {s:Ts} {n:Nat} (h:s.ok=true∧0 < s.l.length):filtK k (n+1) s=(⟨s.bin,if k=8 then s.rdT.num 1 else 0⟩ :: (filtK k n (if k=8 then s.rdT.rd 1 else s.rdT)).1,(filtK k n (if k=8 then s.rdT.rd 1 else s.rdT)).2):=if_pos h
theorem leftL_le (n:Int) (l:List UInt8) (e:Int):(leftL n l e).length≤l.length:=by
 unfold leftL
 split
 ·split
  ·rw[List.length_drop];omega
  ·simp
 ·exact Nat.le_refl _
theorem rdT_lt {s:Ts} (h:s.ok=true∧0 < s.l.length):s.rdT.l.length < s.l.length:=by
 obtain ⟨h1,h0⟩:=h
 have he:s.e=0:=by
  unfold Ts.ok at h1;simp only[Bool.and_eq_true,decide_eq_true_eq]at h1;exact h1.2
 have h2:(leftL 2 s.l s.e).length < s.l.length:=by
  unfold leftL;rw[if_pos he]
  split
  ·rw[List.length_drop];omega
  ·simpa using h0
 exact Nat.lt_of_le_of_lt (leftL_le _ _ _) h2
theorem filtK_lt {k:Int} {s:Ts} (h:s.ok=true∧0 < s.l.length):(if k=8 then s.rdT.rd 1 else s.rdT).l.length < s.l.length:=by
 have h1:=rdT_lt h
 split
 ·exact Nat.lt_of_le_of_lt (leftL_le _ _ _) h1
 ·exact h1
theorem filtK_round {k:Int} {N n:Nat} {S s s':Ts} {acc:List Fi} {o:Nat} (hf:filtK k N S=(acc++(filtK k n s).1,(filtK k n s).2)) (hn:s.l.length≤n) (h:s.ok=true∧0 < s.l.length) (ho:o=if k=8 then s.rdT.num 1 else 0) (hs:s'=if k=8 then s.rdT.rd 1 else s.rdT) :
  filtK k N S=((acc++[⟨s.bin,o⟩])++(filtK k (n - 1) s').1,(filtK k (n - 1) s').2)∧s'.l.length≤n - 1:=by
 have h2:=filtK_lt (k:=k) h;obtain ⟨m,rfl⟩:∃ m,n=m+1:=⟨n - 1,by omega⟩
 subst ho hs;rw[hf,filtK_go h,Nat.add_sub_cancel];refine ⟨by simp,by omega⟩
theorem filtK_end {k:Int} {N n:Nat} {S s:Ts} {acc:List Fi} (hf:filtK k N S=(acc++(filtK k n s).1,(filtK k n s).2)) (h:¬ (s.ok=true∧0 < s.l.length)):filtK k N S=(acc,s):=by
 rw[hf,filtK_stop h];simp
def willK (v:Int) (f:Nat) (p:Pk) (s:Ts):Pk × Ts :=
 if (!decide (f &&& 4=0))=true then
  ({ p with hasWill:=!decide (f &&& 4=0),willQoS:=f / 8 &&& 3,willRetain:=!decide (f &&& 32=0),willProps:=s.sec v,willTopic:=(s.rdS v).bin,willLoad:=(s.rdS v).rdT.bin },(s.rdS v).rdT.rdB)
 else ({ p with hasWill:=!decide (f &&& 4=0) },s.need (decide (f &&& 56=0)))
def userK (f:Nat) (p:Pk) (s:Ts):Pk × Ts :=
 if (!decide (f &&& 128=0))=true then ({ p with hasUser:=!decide (f &&& 128=0),user:=s.bin },s.rdT) else ({ p with hasUser:=!decide (f &&& 128=0) },s)
def passK (f:Nat) (p:Pk) (s:Ts):Pk × Ts :=
 if (!decide (f &&& 64=0))=true then ({ p with hasPass:=!decide (f &&& 64=0),pass:=s.bin },s.rdB) else ({ p with hasPass:=!decide (f &&& 64=0) },s)
def conF (v:Int) (s:Ts):Ts:=((s.rdB.need (decide (s.bin=mqtt))).rd 1).need (decide (((s.rdB.need (decide (s.bin=mqtt))).num 1:Int)=v))
def connK (v:Int) (s:Ts):Pk × Ts :=
 let s2:=conF v s;let f:=s2.num 1;let s3:=(s2.rd 1).need (decide (f &&& 1=0));let s5:=(s3.rd 2).rdS v;let w:=willK v f { zk 1 with clean:=!decide (f &&& 2=0),keep:=s3.num 2,props:=(s3.rd 2).sec v,client:=s5.bin } s5.rdT;let u:=userK f w.1 w.2
 passK f u.1 u.2
def connackK (v:Int) (s:Ts):Pk × Ts :=
 let s1:=(s.rd 1).need (decide (s.num 1≤1))
 ({ zk 2 with present:=decide (s.num 1=1),code:=s1.num 1,props:=(s1.rd 1).sec v },(s1.rd 1).rdS v)
def publK (v:Int) (f:Nat) (s:Ts):Pk × Ts :=
 let s1:=s.rdT;let s2:=if (f / 2 &&& 3)=0 then s1 else s1.rd 2
 ({ zk 3 with dup:=!decide (f &&& 8=0),qos:=f / 2 &&& 3,retain:=!decide (f &&& 1=0),topic:=s.bin,id:=if (f / 2 &&& 3)=0 then 0 else s1.num 2,props:=s2.sec v,load:=(s2.rdS v).rest },(s2.rdS v).rdR)
def fieldsK (v k:Int) (f:Nat) (s:Ts):Pk × Ts :=
 if k=1 then connK v s
 else if k=2 then connackK v s
 else if k=3 then publK v f s
 else if k=4∨k=5∨k=6∨k=7 then shortK v { zk k with id:=s.num 2 } (s.rd 2)
 else if k=8∨k=10 then ({ zk k with id:=s.num 2,props:=(s.rd 2).sec v,filters:=(filtK k ((s.rd 2).rdS v).l.length ((s.rd 2).rdS v)).1 },(filtK k ((s.rd 2).rdS v).l.length ((s.rd 2).rdS v)).2)
 else if k=9∨k=11 then ({ zk k with id:=s.num 2,props:=(s.rd 2).sec v,codes:=((s.rd 2).rdS v).l },((s.rd 2).rdS v).rdR)
 else if k=14∨k=15 then shortK v (zk k) s
 else (zk k,s)
structure Hd where
 kind:Int
 flags:Nat
 head:Int
 rest:Nat
def headS (b:List UInt8):Nat × List UInt8 × Int:=rv 4 0 0 (leftL 1 b 0) (leftE 1 b 0)
def headE (b:List UInt8):Int:=(headS (b.take 5)).2.2
def headB (b:List UInt8):Hd :=
 if headE b=0 then ⟨((num (taken 1 (b.take 5) 0) / 16:Nat):Int),num (taken 1 (b.take 5) 0) % 16,((b.take 5).length:Int) - ((headS (b.take 5)).2.1.length:Int),(headS (b.take 5)).1⟩ else ⟨0,0,0,0⟩
def headOk (v:Int) (h:Hd):Bool :=
 if !(decide (v=4)||decide (v=5))||(decide (h.kind=0)||(decide (v=4)&&decide (h.kind=15))) then false
 else if h.kind=3 then true else if h.kind=6∨h.kind=8∨h.kind=10 then decide (h.flags=2) else decide (h.flags=0)
def formS (v:Int) (b:List UInt8):Pk × Ts:=fieldsK v (headB b).kind (headB b).flags ⟨b.drop (headB b).head.toNat,0,false⟩
def formOk (v:Int) (b:List UInt8):Bool :=
 decide (headE b=0)&&(decide ((b.length:Int)=(headB b).head+(headB b).rest)&&(headOk v (headB b)&&((formS v b).2.ok&&decide ((formS v b).2.l.length=0))))
def formP (v:Int) (b:List UInt8):Pk:=if formOk v b=true then (formS v b).1 else zk 0
def decE (v:Int) (b:List UInt8):Int:=if v=4∨v=5 then (if formOk v b=true then (if rightP v (formP v b)=true then 0 else 4) else 3) else 1
def decP (v:Int) (b:List UInt8):Pk:=if decE v b=0 then formP v b else zk 0
open Go.RowKit
set_option linter.unusedVariables false
set_option linter.unusedSimpArgs false
set_option maxRecDepth 100000
set_option maxHeartbeats 8000000
section
variable {c:World}
theorem ck_ownConnect (p:Pk) (s:Sl) (hk:p.kind=1):Ck Tryz.prog 113 [p.val s] c ((bareP p).val (ownSl p s)):=by
 refine Ck.in Tryz.func113 ?_
 repeat' first|refine go ?_|refine vA fun _=>?_|refine vc (fun _=>?_) fun _=>?_|refine vg (fun _=>?_) fun _=>?_|refine vh [2] ?_|refine vrv ?_
 all_goals (simp only[bareP,ownSl, *,↓reduceIte,Bool.false_eq_true];rfl)
theorem ck_own (p:Pk) (s:Sl):Ck Tryz.prog 53 [p.val s] c ((bareP p).val (ownSl p s)):=by
 by_cases hk:p.kind=1
 ·have c1:=ck_ownConnect (c:=c) p s hk
  refine Ck.in Tryz.func53 ?_
  repeat' first|refine go ?_|refine vA fun _=>?_|refine vrv ?_
  rfl
 refine Ck.in Tryz.func53 ?_
 repeat' first|refine go ?_|refine vA fun _=>?_|refine vc (fun _=>?_) fun _=>?_|refine vg (fun _=>?_) fun _=>?_|refine vrv ?_
 all_goals (simp only[bareP,ownSl,zk, *,↓reduceIte,Int.reduceEq,or_self,or_true,true_or,false_or,or_false];rfl)
theorem ck_sameWill (p q:Pk) (s t:Sl) (hp:p.At s c) (hF:p.few) (hq:q.At t c) (hG:q.few):Ck Tryz.prog 46 [p.val s,q.val t] c (.bool (willB p q)):=by
 have c1:=ck_psame (n:=s.wc) (m:=t.wc) hp.hw hq.hw hF.hw hG.hw;refine Ck.in Tryz.func46 ?_
 repeat' first|refine go ?_|refine vA fun _=>?_|refine vc (fun _=>?_) fun _=>?_|refine vg (fun _=>?_) fun _=>?_|refine vrb ?_
 all_goals grind [willB]
theorem ck_Same (p q:Pk) (s t:Sl) (hp:p.At s c) (hF:p.few) (hq:q.At t c) (hG:q.few):Ck Tryz.prog 20 [p.val s,q.val t] c (.bool (decide (p=q))):=by
 have c1:=ck_psame (n:=s.pc) (m:=t.pc) hp.hp hq.hp hF.hp hG.hp;have c2:=ck_fequal (n:=s.fc) (m:=t.fc) hp.hf hq.hf hF.hf hG.hf;have c3:=ck_cequal (n:=s.cc) (m:=t.cc) hp.hc hq.hc hF.hc hG.hc;have c4:=ck_sameWill p q s t hp hF hq hG;rw[← sameB_eq];refine Ck.in Tryz.func20 ?_
 repeat' first|refine go ?_|refine vA fun _=>?_|refine vc (fun _=>?_) fun _=>?_|refine vg (fun _=>?_) fun _=>?_|refine vrb ?_
 all_goals grind [sameB]
theorem ck_numberSize (p:Pk) (s:Sl):Ck Tryz.prog 73 [p.val s] c (.int .i64 (if p.qos=0 then 0 else 2:Nat)):=by
 refine Ck.in Tryz.func73 ?_
 repeat' first|refine go ?_|refine vA fun _=>?_|refine vc (fun _=>?_) fun _=>?_|refine vri ?_
 all_goals grind
theorem ck_shortCode (hT:Tabs c) (v:Int) (p:Pk) (s:Sl) (hp:p.At s c) (hF:Fit p):Ck Tryz.prog 74 [.int .i64 v,p.val s] c (.int .i64 (shortN v p)):=by
 have c1:=ck_section hT v (n:=s.pc) hp.hp hF.few.hp hF.wf.p;have h1:=secN_le v p.props;refine Ck.in Tryz.func74 ?_
 repeat' first|refine go ?_|refine vA fun _=>?_|refine vc (fun _=>?_) fun _=>?_|refine vg (fun _=>?_) fun _=>?_|refine vri ?_|refine vh [0] ?_
 all_goals grind [shortN]
theorem ck_connectSize (hT:Tabs c) (v:Int) (p:Pk) (s:Sl) (hp:p.At s c) (hF:Fit p):Ck Tryz.prog 70 [.int .i64 v,p.val s] c (.int .i64 (connectN v p)):=by
 have c1:=ck_section hT v (n:=s.pc) hp.hp hF.few.hp hF.wf.p;have c2:=ck_section hT v (n:=s.wc) hp.hw hF.few.hw hF.wf.w;have d1:=secN_le v p.props;have d2:=secN_le v p.willProps;have d3:=hF.r.client;have d4:=hF.r.willTopic;have d5:=hF.r.willLoad;have d6:=hF.r.user;have d7:=hF.r.pass;have c3:=ck_bin c _ d3;have c4:=ck_bin c _ d4;have c5:=ck_bin c _ d5;have c6:=ck_bin c _ d6;have c7:=ck_bin c _ d7;refine Ck.in Tryz.func70 ?_
 repeat' first|refine go ?_|refine vA fun _=>?_|refine vc (fun _=>?_) fun _=>?_|refine vg (fun _=>?_) fun _=>?_|refine vri ?_|refine vh [0] ?_
 all_goals grind [connectN]
theorem ck_Rest (hT:Tabs c) (v:Int) (p:Pk) (s:Sl) (hp:p.At s c) (hF:Fit p) (hN:filtersN p.kind p.filters≤4611686018427387904):Ck Tryz.prog 30 [.int .i64 v,p.val s] c (.int .i64 (restN v p)):=by
 have c1:=ck_section hT v (n:=s.pc) hp.hp hF.few.hp hF.wf.p;have d1:=secN_le v p.props;have d2:=hF.r.topic;have d3:=hF.r.load;have d4:=hF.few.hc;have c2:=ck_bin c _ d2;have c3:=ck_numberSize (c:=c) p s;have c4:=ck_shortCode hT v p s hp hF;have c5:=ck_connectSize hT v p s hp hF;have c6:=ck_filtersSize p s hp hF hN;have d5:shortN v p≤268435460:=by unfold shortN;grind
 have d6:(if p.qos=0 then 0 else 2:Nat)≤2:=by grind
 generalize hq:(if p.qos=0 then 0 else 2:Nat)=q at *;refine Ck.in Tryz.func30 ?_
 repeat' first|refine go ?_|refine vA fun _=>?_|refine vc (fun _=>?_) fun _=>?_|refine vg (fun _=>?_) fun _=>?_|refine vri ?_|refine vh [0] ?_
 all_goals grind [restN]
end
end Go.Proofs.YtohmcfmcbibbcaaGreatDoor
namespace Go.Proofs.YtohmcfmcbibbcaaGreatDoor
open Go.RowKit
set_option linter.unusedVariables false
set_option linter.unusedSimpArgs false
set_option maxRecDepth 100000
set_option maxHeartbeats 8000000
theorem ck_Right {c:World} (hT:Tabs c) (v:Int) (p:Pk) (s:Sl) (hp:p.At s c) (hF:Fit p):Ck Tryz.prog 23 [.int .i64 v,p.val s] c (.bool (rightP v p)):=by
 have c1:=ck_exists c v p.kind;have c2:=ck_own (c:=c) p s;have c3:=ck_Same p (bareP p) s (ownSl p s) hp hF.few (ownSl_at hp) (bare_few hF.few);have c4:=ck_propsRight hT v p s hp hF;have c5:=ck_fieldsRight hT v p s hp hF
 by_cases hB:p=bareP p∧fieldsB v p=true
 ·have hS:=filtersN_le p.kind p.filters (right_S (v:=v) (p:=p) (by rw[sameB_eq];exact decide_eq_true hB.1) hB.2)
  have hf:=hF.few.hf;have c6:=ck_Rest hT v p s hp hF (by omega);refine Ck.in Tryz.func23 ?_
  repeat' first|refine go ?_|refine vA fun b=>?_|refine vc (fun _=>?_) fun _=>?_|refine vg (fun _=>?_) fun _=>?_|refine vh [0] ?_|refine vqg (fun _=>?_) fun _=>?_|refine vrb ?_
  all_goals grind [rightP]
 ·refine Ck.in Tryz.func23 ?_
  repeat' first|refine go ?_|refine vA fun b=>?_|refine vc (fun _=>?_) fun _=>?_|refine vg (fun _=>?_) fun _=>?_|refine vh [0] ?_|refine vqg (fun _=>?_) fun _=>?_|exact absurd (And.intro (by assumption) (by assumption)) hB|refine vrb ?_
  all_goals grind [rightP]
end Go.Proofs.YtohmcfmcbibbcaaGreatDoor
