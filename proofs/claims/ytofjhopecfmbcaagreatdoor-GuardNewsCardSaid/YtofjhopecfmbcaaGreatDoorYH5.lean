import Derived.Test.YtofjhopecfmbcaaGreatDoorYF9
import Derived.Test.YtofjhopecfmbcaaGreatDoorYFN
import Derived.Test.YtofjhopecfmbcaaGreatDoorYF3
import Derived.Test.YtofjhopecfmbcaaGreatDoorYF2
import Derived.Test.YtofjhopecfmbcaaGreatDoorYFF
import Derived.Test.YtofjhopecfmbcaaGreatDoorYH3
import Derived.Test.YtofjhopecfmbcaaGreatDoorYFB
import Derived.Test.YtofjhopecfmbcaaGreatDoorProg
namespace Go.Proofs.YtofjhopecfmbcaaGreatDoor
open Go.RowKit
set_option linter.unusedVariables false
set_option linter.unusedSimpArgs false
set_option maxRecDepth 100000
def secN (v:Int) (L:List Pr):Nat:=if v=4 then 0 else sizeR L
def existsB (v k:Int):Bool:=(decide (v=4)&&(decide (1≤k)&&decide (k < 15)))||(decide (v=5)&&(decide (1≤k)&&decide (k≤15)))
structure Wf (p:Pk):Prop where
 w:∀ x∈p.willProps,x.wf'
 p:∀ x∈p.props,x.wf'
def propsB (v:Int) (p:Pk):Bool:=if v=4 then (decide (p.props.length=0)&&decide (p.willProps.length=0)) else (checkB p.kind p.props&&checkB 16 p.willProps)
def zk (k:Int):Pk:=⟨k,false,false,0,0,false,0,⟨#[]⟩,false,false,false,0,false,[],⟨#[]⟩,⟨#[]⟩,⟨#[]⟩,⟨#[]⟩,false,0,⟨#[]⟩,⟨#[]⟩,[],[],[]⟩
def publishB (v:Int) (p:Pk):Bool :=
 if 2 < p.qos∨(p.dup=true∧p.qos=0) then false else if decide (p.id=0)≠decide (p.qos=0) then false
 else if v=5∧p.topic.size=0 then (getL p.props 35).isSome else nameB p.topic
structure Small (p:Pk):Prop where
 sum:p.client.size+p.willTopic.size+p.willLoad.size+p.user.size+p.pass.size+p.topic.size+p.load.size+p.codes.length≤3000
 nf:p.filters.length≤30
 np:p.props.length≤30
 nw:p.willProps.length≤30
 tf:∀ f∈p.filters,f.text.size≤300
 tp:∀ x∈p.props,x.a.size≤300∧x.b.size≤300
 tw:∀ x∈p.willProps,x.a.size≤300∧x.b.size≤300
structure Reach (p:Pk):Prop where
 client:p.client.size≤140737488351232
 willTopic:p.willTopic.size≤140737488351232
 willLoad:p.willLoad.size≤140737488351232
 user:p.user.size≤140737488351232
 pass:p.pass.size≤140737488351232
 topic:p.topic.size≤140737488351232
 load:p.load.size≤140737488351232
 nw:p.willProps.length≤140737488351232
 nf:p.filters.length≤140737488351232
 nc:p.codes.length≤140737488351232
 np:p.props.length≤140737488351232
 tf:∀ f∈p.filters,f.text.size≤140737488351232
 tp:∀ x∈p.props,x.a.size≤140737488351232∧x.b.size≤140737488351232
 tw:∀ x∈p.willProps,x.a.size≤140737488351232∧x.b.size≤140737488351232
def willB (p q:Pk):Bool:=(((((decide (p.hasWill=q.hasWill)&&decide (p.willQoS=q.willQoS))&&decide (p.willRetain=q.willRetain))&&decide (p.willTopic=q.willTopic))&&decide (p.willLoad=q.willLoad))&&decide (p.willProps=q.willProps))
def sameB (p q:Pk):Bool:=(((((((((((((((((((decide (p.kind=q.kind)&&decide (p.id=q.id))&&decide (p.present=q.present))&&decide (p.code=q.code))&&decide (p.dup=q.dup))&&decide (p.qos=q.qos))&&decide (p.retain=q.retain))&&decide (p.topic=q.topic))&&decide (p.load=q.load))&&decide (p.clean=q.clean))&&decide (p.keep=q.keep))&&decide (p.client=q.client))&&willB p q)&&decide (p.hasUser=q.hasUser))&&decide (p.user=q.user))&&decide (p.hasPass=q.hasPass))&&decide (p.pass=q.pass))&&decide (p.filters=q.filters))&&decide (p.codes=q.codes))&&decide (p.props=q.props))
theorem sameB_eq (p q:Pk):sameB p q=decide (p=q):=by
 rw[Bool.eq_iff_iff];simp only[sameB,willB,Bool.and_eq_true,decide_eq_true_eq];constructor
 ·intro h
  obtain ⟨k1,d1,r1,o1,i1,c1,e1,l1,h1,u1,a1,g1,m1,P1,t1,b1,s1,v1,n1,z1,j1,x1,F1,C1,Q1⟩:=p;obtain ⟨k2,d2,r2,o2,i2,c2,e2,l2,h2,u2,a2,g2,m2,P2,t2,b2,s2,v2,n2,z2,j2,x2,F2,C2,Q2⟩:=q;dsimp only at h;simp only[Pk.mk.injEq];simp only[h,and_self]
 ·intro h
  subst h;simp only[and_self]
def bareP (p:Pk):Pk :=
 if p.kind=1 then { zk 1 with clean:=p.clean,keep:=p.keep,props:=p.props,client:=p.client,hasWill:=p.hasWill,hasUser:=p.hasUser,hasPass:=p.hasPass,willQoS:=if p.hasWill then p.willQoS else 0,willRetain:=if p.hasWill then p.willRetain else false,willProps:=if p.hasWill then p.willProps else [],willTopic:=if p.hasWill then p.willTopic else ⟨#[]⟩,willLoad:=if p.hasWill then p.willLoad else ⟨#[]⟩,user:=if p.hasUser then p.user else ⟨#[]⟩,pass:=if p.hasPass then p.pass else ⟨#[]⟩ }
 else if p.kind=2 then { zk 2 with present:=p.present,code:=p.code,props:=p.props }
 else if p.kind=3 then { zk 3 with dup:=p.dup,qos:=p.qos,retain:=p.retain,topic:=p.topic,id:=p.id,props:=p.props,load:=p.load }
 else if p.kind=4∨p.kind=5∨p.kind=6∨p.kind=7 then { zk p.kind with id:=p.id,code:=p.code,props:=p.props }
 else if p.kind=8∨p.kind=10 then { zk p.kind with id:=p.id,props:=p.props,filters:=p.filters }
 else if p.kind=9∨p.kind=11 then { zk p.kind with id:=p.id,props:=p.props,codes:=p.codes }
 else if p.kind=14∨p.kind=15 then { zk p.kind with code:=p.code,props:=p.props }
 else zk p.kind
def willOkB (p:Pk):Bool:=decide (p.willQoS≤2)&&(nameB p.willTopic&&decide (p.willLoad.size≤65535))
def connectB (v:Int) (p:Pk):Bool :=
 okText p.client&&(okText p.user&&(decide (p.pass.size≤65535)&&((!p.hasWill||willOkB p)&&(decide (v=5)||((p.hasUser||!p.hasPass)&&(p.clean||decide (0 < p.client.size)))))))
def optB (v k:Int) (f:Fi):Bool :=
 if k=10 then decide (f.opt=0) else if 2 < f.opt % 4 then false else if v=4 then decide (f.opt < 4) else if f.opt / 16 % 4=3∨64≤f.opt then false else !sharedB f.text||decide (f.opt / 4 % 2=0)
def filtersB (v:Int) (p:Pk):Bool:=decide (1≤p.filters.length)&&(decide (p.filters.length≤1024)&&p.filters.all fun f=>filterB f.text&&optB v p.kind f)
def codesB (v:Int) (p:Pk):Bool :=
 if v=4∧p.kind=11 then decide (p.codes.length=0) else decide (1≤p.codes.length)&&(decide (p.codes.length≤1024)&&p.codes.all fun c=>ke v p.kind c.toNat)
def fieldsB (v:Int) (p:Pk):Bool :=
 if p.kind=1 then connectB v p
 else if p.kind=2 then ke v p.kind p.code&&(decide (p.code=0)||!p.present)
 else if p.kind=3 then publishB v p
 else if p.kind=4∨p.kind=5∨p.kind=6∨p.kind=7 then !decide (p.id=0)&&ke v p.kind p.code
 else if p.kind=8∨p.kind=10 then !decide (p.id=0)&&filtersB v p
 else if p.kind=9∨p.kind=11 then !decide (p.id=0)&&codesB v p
 else if p.kind=14 then ke v p.kind p.code
 else if p.kind=15 then (getL p.props 21).isSome&&ke v p.kind p.code
 else true
def shortN (v:Int) (p:Pk):Nat:=if v=4∨(p.code=0∧p.props.length=0) then 0 else if p.props.length=0 then 1 else 1+secN v p.props
def filtersN (k:Int):List Fi→Nat
 | []=>0
 | f :: l=>(2+f.text.size+if k=8 then 1 else 0)+filtersN k l
def connectN (v:Int) (p:Pk):Nat:=10+secN v p.props+(2+p.client.size)+(if p.hasWill then secN v p.willProps+(2+p.willTopic.size)+(2+p.willLoad.size) else 0)+(if p.hasUser then 2+p.user.size else 0)+(if p.hasPass then 2+p.pass.size else 0)
def restN (v:Int) (p:Pk):Nat :=
 if p.kind=1 then connectN v p
 else if p.kind=2 then 2+secN v p.props
 else if p.kind=3 then 2+p.topic.size+(if p.qos=0 then 0 else 2)+secN v p.props+p.load.size
 else if p.kind=4∨p.kind=5∨p.kind=6∨p.kind=7 then 2+shortN v p
 else if p.kind=8∨p.kind=10 then 2+secN v p.props+filtersN p.kind p.filters
 else if p.kind=9∨p.kind=11 then 2+secN v p.props+p.codes.length
 else if p.kind=14∨p.kind=15 then shortN v p
 else 0
def rightP (v:Int) (p:Pk):Bool:=existsB v p.kind&&(decide (p=bareP p)&&(propsB v p&&(fieldsB v p&&decide (restN v p≤268435455))))
structure Fit (p:Pk):Prop where
 few:p.few
 wf:Wf p
 r:Reach p
 qos:p.qos < 256
 id:p.id < 65536
 keep:p.keep < 65536
 wq:p.willQoS < 256
 code:p.code < 256
 opt:∀ f∈p.filters,f.opt < 256
theorem ckOf {P : Program} {f : Nat} {fn : Func} {args : List Value} {c : World} {v : Value} (hf : P.funcs[f]? = some fn) (h : ∀ w, Le c w → Calls P f args.toArray w fun e w' => e = .returned v ∧ Kept No w w') (hb : fn.body.isNone = false := by rfl) (hg : (fn.name == "runtime.NumGoroutine") = false := by kernel_rfl) : Ck P f args c v :=
 ⟨fun args w=>gx_fn hf hg hb args w,h⟩
theorem Tabs.le {c w:World} (h:Tabs c) (k:Le c w):Tabs w:=⟨fun i hi=>k.cell (h.1 i hi),fun i hi=>⟨k.cell (h.2 i hi).1,k.cell (h.2 i hi).2⟩⟩
theorem Pk.At.le {p:Pk} {s:Sl} {c w:World} (h:p.At s c) (k:Le c w):p.At s w:=⟨h.hw.le k,h.hf.le k,h.hc.le k,h.hp.le k⟩
section
variable {c:World} (hT:Tabs c)
include hT
theorem ck_right {s:ByteArray} (hs:s.size≤140737488351232):Ck Tryz.prog 126 [.string s] c (.bool (okText s)):=ckOf Tryz.func126 fun w k=>right_any s w (by omega) (hT.le k)
theorem ck_filter {s:ByteArray} (hs:s.size≤140737488351232):Ck Tryz.prog 93 [.string s] c (.bool (filterB s)):=ckOf Tryz.func93 fun w k=>filter_any s w (by omega) (hT.le k)
theorem ck_name {s:ByteArray} (hs:s.size≤140737488351232):Ck Tryz.prog 84 [.string s] c (.bool (nameB s)):=ckOf Tryz.func84 fun w k=>name_any s w (by omega) (hT.le k)
theorem ck_shared {s:ByteArray} (hs:s.size≤140737488351232):∃ a b,Ck Tryz.prog 67 [.string s] c (.tuple #[.string a,.string b,.bool (sharedB s)]):=by
 have h:∀ w,Le c w→_:=fun w k=>shared_any s w (by omega) (hT.le k)
 unfold sharedV at h;cases hS:sharedB s with
 | true=>rw[hS,if_pos rfl]at h;exact ⟨_,_,ckOf Tryz.func67 h⟩
 | false=>rw[hS,if_neg (by simp)]at h;exact ⟨_,_,ckOf Tryz.func67 h⟩
theorem ck_check {k:Int} {a:Option Addr} {n:Nat} {L:List Pr} (hr:Row c a (PC L)) (hl:L.length≤100000) (hw:∀ p∈L,p.wf'):Ck Tryz.prog 112 [.int .i64 k,.slice a L.length n] c (.bool (checkB k L)):=ckOf Tryz.func112 fun w e=>check_any k a n L w (hr.le e) hl hw (hT.le e)
theorem ck_psize {a:Option Addr} {n:Nat} {L:List Pr} (hr:Row c a (PC L)) (hl:L.length≤100000) (hw:∀ p∈L,p.wf'):Ck Tryz.prog 145 [.slice a L.length n] c (.int .i64 (sizeR L)):=ckOf Tryz.func145 fun w e=>psize_any a n L w (hr.le e) hl hw (hT.le e)
end
theorem ck_known {c:World} {v k:Int} {x:Nat} (hx:x < 256):Ck Tryz.prog 59 [.int .i64 v,.int .i64 k,.int .u8 x] c (.bool (ke v k x)):=ckOf Tryz.func59 fun w _=>known_any v k x w hx
theorem ck_get {c:World} {a:Option Addr} {n:Nat} {L:List Pr} {x:Nat} {xi:Int} (hx:xi=x) (hr:Row c a (PC L)) (hl:L.length≤100000):∃ (i m:Nat) (A B:ByteArray),Ck Tryz.prog 39 [.slice a L.length n,.int .u8 xi] c (.tuple #[.agg #[.int .u8 i,.int .u32 m,.string A,.string B],.bool (getL L x).isSome]):=by
 obtain ⟨i,m,A,B,s,rfl,h⟩:=getp_at a n L x xi hx hl;exact ⟨_,_,_,_,ckOf Tryz.func39 fun w k=>h w (hr.le k)⟩
theorem ck_psame {c:World} {a b:Option Addr} {n m:Nat} {L M:List Pr} (hr:Row c a (PC L)) (hr2:Row c b (PC M)) (hl:L.length≤100000) (hl2:M.length≤100000):Ck Tryz.prog 110 [.slice a L.length n,.slice b M.length m] c (.bool (decide (L=M))):=ckOf Tryz.func110 fun w k=>psame_any a n L b m M w (hr.le k) (hr2.le k) hl hl2
theorem ck_fequal {c:World} {a b:Option Addr} {n m:Nat} {L M:List Fi} (hr:Row c a (FC L)) (hr2:Row c b (FC M)) (hl:L.length≤100000) (hl2:M.length≤100000):Ck Tryz.prog 108 [.slice a L.length n,.slice b M.length m] c (.bool (decide (L=M))):=ckOf Tryz.func108 fun w k=>fequal_any a n L b m M w (hr.le k) (hr2.le k) hl hl2
theorem ck_cequal {c:World} {a b:Option Addr} {n m:Nat} {L M:List UInt8} (hr:Row c a (B8 L)) (hr2:Row c b (B8 M)) (hl:L.length≤100000) (hl2:M.length≤100000):Ck Tryz.prog 109 [.slice a L.length n,.slice b M.length m] c (.bool (decide (L=M))):=ckOf Tryz.func109 fun w k=>cequal_any a n L b m M w (hr.le k) (hr2.le k) hl hl2
theorem bits_opt:∀ n:Fin 256,(n.val &&& 3)=n.val % 4∧((n.val &&& 252)=0↔n.val < 4)∧((n.val &&& 48)=48↔n.val / 16 % 4=3)∧((n.val &&& 192)=0↔n.val < 64)∧((n.val &&& 4)=0↔n.val / 4 % 2=0):=by decide +kernel
def ownSl (p:Pk) (s:Sl):Sl :=
 if p.kind=1 then ⟨if p.hasWill then s.wa else none,if p.hasWill then s.wc else 0,none,0,none,0,s.pa,s.pc⟩
 else if p.kind=8∨p.kind=10 then ⟨none,0,s.fa,s.fc,none,0,s.pa,s.pc⟩
 else if p.kind=9∨p.kind=11 then ⟨none,0,none,0,s.ca,s.cc,s.pa,s.pc⟩
 else if p.kind=2∨p.kind=3∨p.kind=4∨p.kind=5∨p.kind=6∨p.kind=7∨p.kind=14∨p.kind=15 then ⟨none,0,none,0,none,0,s.pa,s.pc⟩
 else ⟨none,0,none,0,none,0,none,0⟩
theorem kinds_or (k:Int):k=1∨k=2∨k=3∨k=4∨k=5∨k=6∨k=7∨k=8∨k=9∨k=10∨k=11∨k=14∨k=15∨(k≠1∧k≠2∧k≠3∧k≠4∧k≠5∧k≠6∧k≠7∧k≠8∧k≠9∧k≠10∧k≠11∧k≠14∧k≠15):=by omega
theorem ownSl_at {p:Pk} {s:Sl} {w:World} (h:p.At s w):(bareP p).At (ownSl p s) w:=by
 obtain ⟨h1,h2,h3,h4⟩:=h;unfold bareP ownSl;rcases kinds_or p.kind with k|k|k|k|k|k|k|k|k|k|k|k|k|⟨k1,k2,k3,k4,k5,k6,k7,k8,k9,k10,k11,k14,k15⟩
 ·simp only[k,↓reduceIte]
  cases p.hasWill
  ·exact ⟨.nil _ _,.nil _ _,.nil _ _,h4⟩
  ·exact ⟨h1,.nil _ _,.nil _ _,h4⟩
 all_goals (first|simp only[k,↓reduceIte,Int.reduceEq,or_self,or_true,true_or,false_or,or_false]|simp only[k1,k2,k3,k4,k5,k6,k7,k8,k9,k10,k11,k14,k15,↓reduceIte,or_self])
 all_goals exact ⟨.nil _ _,by first|exact h2|exact .nil _ _,by first|exact h3|exact .nil _ _,by first|exact h4|exact .nil _ _⟩
def Pk.li (p:Pk) (s:Sl):List Value:=[.int .i64 p.kind,.bool p.dup,.bool p.retain,.int .u8 p.qos,.int .u16 p.id,.bool p.clean,.int .u16 p.keep,.string p.client,.bool p.hasWill,.bool p.hasUser,.bool p.hasPass,.int .u8 p.willQoS,.bool p.willRetain,
 .slice s.wa p.willProps.length s.wc,.string p.willTopic,.string p.willLoad,.string p.user,.string p.pass,.bool p.present,.int .u8 p.code,.string p.topic,.string p.load,.slice s.fa p.filters.length s.fc,.slice s.ca p.codes.length s.cc,.slice s.pa p.props.length s.pc]
theorem Row.fi {c:World} {a:Option Addr} {L:List Fi} (h:Row c a (FC L)) {j:Nat} (hj:j < L.length):∃ b o,Rat c a 2 j b o [.string L[j].text,.int .u8 L[j].opt] :=
 h.rat 2 j _ (fun i v hv=>by
  obtain ⟨h1,h2⟩:=FC_get L j hj
  match i with
  | 0=>cases hv;simpa using h1
  | 1=>cases hv;exact h2
  | i+2=>simp[nth]at hv) (by rw[FC_length];omega)
theorem Row.by8 {c:World} {a:Option Addr} {L:List UInt8} (h:Row c a (B8 L)) {j:Nat} (hj:j < L.length):∃ b o,Rat c a 1 j b o [.int .u8 (L[j].toNat:Int)] :=
 h.rat 1 j _ (fun i v hv=>by
  match i with
  | 0=>cases hv;simp[B8,hj]
  | i+1=>simp[nth]at hv) (by simp[B8];omega)
theorem lenGo_le:∀ (L:List Pr) (m n:Nat),lenGo L m=some n→m≤268435455→n≤268435455:=by
 intro L
 induction L with
 | nil=>intro m n h hm;simp[lenGo]at h;omega
 | cons p L ih =>
  intro m n h hm;simp only[lenGo]at h
  split at h
  ·split at h
   ·exact ih _ _ h (by omega)
   ·cases h
  ·cases h
theorem secN_le (v:Int) (L:List Pr):secN v L≤268435459:=by
 unfold secN sizeR
 split
 ·omega
 ·split
  ·rename_i n h
   have:=lenGo_le L 0 n h (by omega)
   have h4:=varL_le n;omega
  ·omega
theorem bare_few {p:Pk} (h:p.few):(bareP p).few:=by
 have h1:=h.hw;have h2:=h.hf;have h3:=h.hc;have h4:=h.hp;have hz:∀ k,(zk k).few:=fun k=>⟨by simp[zk],by simp[zk],by simp[zk],by simp[zk]⟩
 unfold bareP
 repeat' split
 all_goals first
  | exact hz _
  | (refine ⟨?_,?_,?_,?_⟩<;>(try simp only[zk])<;>first|assumption|(split<;>first|assumption|simp)|simp)
theorem filter_65535 {s:ByteArray} (h:filterB s=true):s.size≤65535:=by
 unfold filterB okText at h;simp only[Bool.and_eq_true,decide_eq_true_eq]at h;omega
theorem Pr.few_txt {L:List Fi} {v k:Int} (h:(L.all fun f=>filterB f.text&&optB v k f)=true):∀ f∈L,filterB f.text=true:=by
 intro f hf
 have:=List.all_eq_true.1 h f hf
 simp only[Bool.and_eq_true]at this;exact this.1
theorem right_S {v:Int} {p:Pk} (h1:sameB p (bareP p)=true) (h2:fieldsB v p=true):∀ f∈p.filters,f.text.size≤65535:=by
 rw[sameB_eq]at h1;have h1:=of_decide_eq_true h1
 by_cases hk:p.kind=8∨p.kind=10
 ·unfold fieldsB at h2
  rw[if_neg (by omega),if_neg (by omega),if_neg (by omega),if_neg (by omega),if_pos hk]at h2;unfold filtersB at h2;simp only[Bool.and_eq_true]at h2;exact fun f hf=>filter_65535 (Pr.few_txt h2.2.2.2 f hf)
 ·have:p.filters=[]:=by
   rw[h1];unfold bareP
   repeat' split
   all_goals first|rfl|(exfalso;omega)
  rw[this];intro f hf;cases hf
theorem filtersN_le (k:Int):∀ (L:List Fi),(∀ f∈L,f.text.size≤65535)→filtersN k L≤L.length * 65538
 | [],_=>by simp[filtersN]
 | f :: L,h=>by
  have h1:=filtersN_le k L (fun g hg=>h g (List.mem_cons_of_mem _ hg));have h2:=h f (List.mem_cons_self ..);simp only[filtersN,List.length_cons]
  split<;>omega
theorem bsz {s:ByteArray}:s.size=0↔s=⟨#[]⟩:=by
 constructor
 ·intro h;cases s with|mk d=>cases d with|mk l=>cases l with
  | nil=>rfl
  | cons a l=>simp[ByteArray.size]at h
 ·rintro rfl;rfl
set_option maxHeartbeats 8000000
theorem ck_exists (c:World) (v k:Int):Ck Tryz.prog 76 [.int .i64 v,.int .i64 k] c (.bool (existsB v k)):=by
 refine Ck.in Tryz.func76 ?_
 repeat' first|refine go ?_|refine vA fun _=>?_|refine vc (fun _=>?_) fun _=>?_|refine vg (fun _=>?_) fun _=>?_|refine vrb ?_
 all_goals simp[existsB, *]
theorem ck_bin (c:World) (s:ByteArray) (hs:s.size≤140737488351232):Ck Tryz.prog 120 [.string s] c (.int .i64 (2+s.size:Nat)):=by
 refine Ck.in Tryz.func120 ?_
 repeat' first|refine go ?_|refine vri ?_
 all_goals omega
section
variable {c:World} (hT:Tabs c)
include hT
theorem ck_section (v:Int) {a:Option Addr} {n:Nat} {L:List Pr} (hr:Row c a (PC L)) (hl:L.length≤100000) (hw:∀ p∈L,p.wf'):Ck Tryz.prog 119 [.int .i64 v,.slice a L.length n] c (.int .i64 (secN v L)):=by
 have c1:=ck_psize hT (n:=n) hr hl hw;refine Ck.in Tryz.func119 ?_
 repeat' first|refine go ?_|refine vc (fun _=>?_) fun _=>?_|refine vri ?_
 all_goals simp[secN, *]
theorem ck_propsRight (v:Int) (p:Pk) (s:Sl) (hp:p.At s c) (hF:Fit p):Ck Tryz.prog 79 [.int .i64 v,p.val s] c (.bool (propsB v p)):=by
 have c1:=ck_check hT (k:=p.kind) (n:=s.pc) hp.hp hF.few.hp hF.wf.p;have c2:=ck_check hT (k:=16) (n:=s.wc) hp.hw hF.few.hw hF.wf.w;refine Ck.in Tryz.func79 ?_
 repeat' first|refine go ?_|refine vA fun _=>?_|refine vc (fun _=>?_) fun _=>?_|refine vg (fun _=>?_) fun _=>?_|refine vrb ?_
 all_goals grind [propsB]
theorem ck_willRight (p:Pk) (s:Sl) (hF:Fit p):Ck Tryz.prog 143 [p.val s] c (.bool (willOkB p)):=by
 have h1:=hF.r.willTopic;have h2:=hF.r.willLoad;have c1:=ck_name hT h1;refine Ck.in Tryz.func143 ?_
 repeat' first|refine go ?_|refine vA fun _=>?_|refine vc (fun _=>?_) fun _=>?_|refine vg (fun _=>?_) fun _=>?_|refine vrb ?_
 all_goals grind [willOkB]
theorem ck_connectRight (v:Int) (p:Pk) (s:Sl) (hF:Fit p):Ck Tryz.prog 113 [.int .i64 v,p.val s] c (.bool (connectB v p)):=by
 have h1:=hF.r.client;have h2:=hF.r.user;have h3:=hF.r.pass;have c1:=ck_right hT h1;have c2:=ck_right hT h2;have c3:=ck_willRight hT p s hF;refine Ck.in Tryz.func113 ?_
 repeat' first|refine go ?_|refine vA fun _=>?_|refine vc (fun _=>?_) fun _=>?_|refine vg (fun _=>?_) fun _=>?_|refine vrb ?_
 all_goals grind [connectB,bsz]
theorem ck_publishRight (v:Int) (p:Pk) (s:Sl) (hp:p.At s c) (hF:Fit p):Ck Tryz.prog 115 [.int .i64 v,p.val s] c (.bool (publishB v p)):=by
 have h1:=hF.r.topic;have c1:=ck_name hT h1;obtain ⟨u1,u2,u3,u4,c2⟩:=ck_get (c:=c) (n:=s.pc) (x:=35) rfl hp.hp hF.few.hp;refine Ck.in Tryz.func115 ?_
 repeat' first|refine go ?_|refine vA fun _=>?_|refine vc (fun _=>?_) fun _=>?_|refine vg (fun _=>?_) fun _=>?_|refine vrb ?_
 all_goals grind [publishB,bsz]
omit hT in
theorem ck_codeKnown (v:Int) (p:Pk) (s:Sl) (hF:Fit p):Ck Tryz.prog 114 [.int .i64 v,p.val s] c (.bool (ke v p.kind p.code)):=by
 have c1:=ck_known (c:=c) (v:=v) (k:=p.kind) hF.code;refine Ck.in Tryz.func114 ?_
 repeat' first|refine go ?_|refine vA fun _=>?_|refine vrb ?_
 rfl
theorem ck_optRight (v k:Int) (f:Fi) (ho:f.opt < 256) (ht:f.text.size≤140737488351232):Ck Tryz.prog 144 [.int .i64 v,.int .i64 k,.agg #[.string f.text,.int .u8 f.opt]] c (.bool (optB v k f)):=by
 obtain ⟨u1,u2,c1⟩:=ck_shared hT ht;have hb:=bits_opt ⟨f.opt,ho⟩;simp only at hb;refine Ck.in Tryz.func144 ?_
 repeat' first|refine go ?_|refine vA fun _=>?_|refine vc (fun _=>?_) fun _=>?_|refine vg (fun _=>?_) fun _=>?_|refine vrb ?_
 all_goals grind [optB]
end
section
variable {c:World} (hT:Tabs c)
include hT
theorem ck_filtersRight (v:Int) (p:Pk) (s:Sl) (hp:p.At s c) (hF:Fit p):Ck Tryz.prog 116 [.int .i64 v,p.val s] c (.bool (filtersB v p)):=by
 have hfew:=hF.few.hf;refine Ck.in Tryz.func116 ?_
 repeat' first|refine go ?_|refine vA fun b=>?_|refine vc (fun _=>?_) fun _=>?_|refine vg (fun _=>?_) fun _=>?_|refine vrb ?_
 ·grind [filtersB]
 ·grind [filtersB]
 refine vlo (fun (j:Nat)=>[(0,.int .i64 v),(3,.pointer (some ⟨b,0,none⟩)),(18,.slice s.fa p.filters.length s.fc),(19,.int .i64 p.filters.length),(20,.int .i64 j)]) (fun _=>c) (fun _=>[⟨b,61,p.li s⟩]) (fun _=>[]) (fun j=>j≤p.filters.length∧(p.filters.drop j).all (fun f=>filterB f.text&&optB v p.kind f)=p.filters.all fun f=>filterB f.text&&optB v p.kind f) (fun j=>p.filters.length - j) 0 ⟨by omega,rfl⟩ fun j hj=>?_
 rcases Nat.lt_or_ge j p.filters.length with h|h
 ·obtain ⟨b2,o2,hR⟩:=hp.hf.fi h
  have c1:=ck_filter hT (hF.r.tf _ (List.getElem_mem h));have c2:=ck_optRight hT v p.kind _ (hF.opt _ (List.getElem_mem h)) (hF.r.tf _ (List.getElem_mem h));rw[List.drop_eq_getElem_cons h,List.all_cons]at hj
  repeat' first|refine go ?_|refine vA fun b3=>?_|refine vc (fun _=>?_) fun _=>?_|refine vg (fun _=>?_) fun _=>?_|refine vrb ?_|refine ved (vj (j+1) ?_)
  all_goals grind [filtersB]
 ·rw[List.drop_eq_nil_of_le h]at hj
  repeat' first|refine go ?_|refine vA fun b=>?_|refine vrb ?_
  all_goals grind [filtersB]
theorem ck_codesRight (v:Int) (p:Pk) (s:Sl) (hp:p.At s c) (hF:Fit p):Ck Tryz.prog 117 [.int .i64 v,p.val s] c (.bool (codesB v p)):=by
  have hfew:=hF.few.hc;have hT9:=hT;clear hT9;refine Ck.in Tryz.func117 ?_
  repeat' first|refine go ?_|refine vA fun b=>?_|refine vc (fun _=>?_) fun _=>?_|refine vg (fun _=>?_) fun _=>?_|refine vrb ?_
  all_goals try (grind [codesB];done)
  all_goals refine vlo (fun (j:Nat)=>[(0,.int .i64 v),(3,.pointer (some ⟨b,0,none⟩)),(29,.slice s.ca p.codes.length s.cc),(30,.int .i64 p.codes.length),(31,.int .i64 j)]) (fun _=>c) (fun _=>[⟨b,61,p.li s⟩]) (fun _=>[]) (fun j=>j≤p.codes.length∧(p.codes.drop j).all (fun f=>ke v p.kind f.toNat)=p.codes.all fun f=>ke v p.kind f.toNat) (fun j=>p.codes.length - j) 0 ⟨by omega,rfl⟩ fun j hj=>?_
  all_goals rcases Nat.lt_or_ge j p.codes.length with h|h
  all_goals first
    | (obtain ⟨b2,o2,hR⟩:=hp.hc.by8 h
       have c1:=ck_known (c:=c) (v:=v) (k:=p.kind) (p.codes[j].toNat_lt);rw[List.drop_eq_getElem_cons h,List.all_cons]at hj
       repeat' first|refine go ?_|refine vA fun b=>?_|refine vc (fun _=>?_) fun _=>?_|refine vg (fun _=>?_) fun _=>?_|refine vrb ?_|refine vj (j+1) ?_
       all_goals grind [codesB])
    | (rw[List.drop_eq_nil_of_le h]at hj
       repeat' first|refine go ?_|refine vA fun b=>?_|refine vc (fun _=>?_) fun _=>?_|refine vg (fun _=>?_) fun _=>?_|refine vrb ?_
       all_goals grind [codesB])
omit hT in
theorem ck_filtersSize (p:Pk) (s:Sl) (hp:p.At s c) (hF:Fit p) (hN:filtersN p.kind p.filters≤4611686018427387904):Ck Tryz.prog 123 [p.val s] c (.int .i64 (filtersN p.kind p.filters)):=by
 refine Ck.in Tryz.func123 ?_
 repeat' first|refine go ?_|refine vA fun b=>?_|refine vc (fun _=>?_) fun _=>?_|refine vg (fun _=>?_) fun _=>?_|refine vri ?_
 refine vlo (fun (x:Nat × Nat)=>[(1,.pointer (some ⟨b,0,none⟩)),(3,.int .i64 x.2),(7,.slice s.fa p.filters.length s.fc),(8,.int .i64 p.filters.length),(9,.int .i64 x.1)]) (fun _=>c) (fun _=>[⟨b,61,p.li s⟩]) (fun _=>[]) (fun x=>x.1≤p.filters.length∧x.2+filtersN p.kind (p.filters.drop x.1)=filtersN p.kind p.filters) (fun x=>p.filters.length - x.1) (0,0) ⟨by omega,by simp⟩ fun ⟨j,n⟩ hj=>?_
 have hfew:=hF.few.hf;rcases Nat.lt_or_ge j p.filters.length with h|h
 ·obtain ⟨b2,o2,hR⟩:=hp.hf.fi h
  have c1:=ck_bin c _ (hF.r.tf _ (List.getElem_mem h));dsimp only at hj;rw[List.drop_eq_getElem_cons h,filtersN]at hj;obtain ⟨hj1,hj2⟩:=hj
  repeat' first|refine go ?_|refine vA fun b=>?_|refine vc (fun _=>?_) fun _=>?_|refine vg (fun _=>?_) fun _=>?_|refine vri ?_|exact ved (vj (j+1,n+(2+p.filters[j].text.size)+1) (by dsimp only;grind))|exact ved (vj (j+1,n+(2+p.filters[j].text.size)) (by dsimp only;grind))
  all_goals trace_state
 ·dsimp only at hj
  rw[List.drop_eq_nil_of_le h]at hj
  repeat' first|refine go ?_|refine vA fun b=>?_|refine vc (fun _=>?_) fun _=>?_|refine vg (fun _=>?_) fun _=>?_|refine vri ?_
  all_goals grind [filtersN]
theorem ck_fieldsRight (v:Int) (p:Pk) (s:Sl) (hp:p.At s c) (hF:Fit p):Ck Tryz.prog 80 [.int .i64 v,p.val s] c (.bool (fieldsB v p)):=by
 have h1:=ck_connectRight hT v p s hF;have h2:=ck_codeKnown v p s hF (c:=c);have h3:=ck_publishRight hT v p s hp hF;have h4:=ck_filtersRight hT v p s hp hF;have h5:=ck_codesRight hT v p s hp hF;obtain ⟨u1,u2,u3,u4,h6⟩:=ck_get (c:=c) (n:=s.pc) (x:=21) rfl hp.hp hF.few.hp;refine Ck.in Tryz.func80 ?_
 repeat' first|refine go ?_|refine vA fun b=>?_|refine vc (fun _=>?_) fun _=>?_|refine vg (fun _=>?_) fun _=>?_|refine vrb ?_
 all_goals first|(simp[fieldsB, *];done)|(simp only[fieldsB, *];grind)
end
end Go.Proofs.YtofjhopecfmbcaaGreatDoor
