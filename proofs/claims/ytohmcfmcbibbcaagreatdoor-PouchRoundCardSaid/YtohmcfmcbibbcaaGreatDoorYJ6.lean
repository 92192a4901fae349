import Derived.Test.YtohmcfmcbibbcaaGreatDoorYF9
import Derived.ChangeSlices
import Derived.OpenShut
import Derived.ShutString
import Derived.Test.YtohmcfmcbibbcaaGreatDoorYH5
namespace Go.Proofs.YtohmcfmcbibbcaaGreatDoor
open Go.RowKit Go.ChangeShapes Go.WideShapes Go.Deep
set_option linter.unusedVariables false
set_option linter.unusedSimpArgs false
set_option maxRecDepth 100000
structure IsBytes (w:World) (a:Option Addr) (len cap:Nat) (l:List UInt8):Prop where
 hlen:l.length=len
 hrow:Row w a (B8 l)
 hle:len≤cap
 hcap:cap≤maxLen
 hnil:a=none→len=0∧cap=0
theorem IsRow.bytes {w:World} {a:Option Addr} {len cap:Nat} {zs:List Int} (h:IsRow .u8 w a len cap zs):IsBytes w a len cap ((zs.take len).map byteOf):=by
 obtain ⟨hrow,hlen,hlc,hcm,hn,hwf⟩:=h.row;rw[ints_bytes hwf]at hrow;exact ⟨by simpa using hlen,hrow,hlc,hcm,(fun h=>by have:=hn h;omega)⟩
structure IsPk (w:World) (p:Pk) (s:Sl):Prop where
 hkind:(Lit.int .i64 p.kind).wf=true
 hqos:p.qos < 256
 hid:p.id < 65536
 hkeep:p.keep < 65536
 hwillQoS:p.willQoS < 256
 hcode:p.code < 256
 hclient:p.client.size≤maxLen
 hwillTopic:p.willTopic.size≤maxLen
 hwillLoad:p.willLoad.size≤maxLen
 huser:p.user.size≤maxLen
 hpass:p.pass.size≤maxLen
 htopic:p.topic.size≤maxLen
 hload:p.load.size≤maxLen
 hw:IsProps w s.wa p.willProps.length s.wc p.willProps
 hf:IsFilts w s.fa p.filters.length s.fc p.filters
 hc:IsBytes w s.ca p.codes.length s.cc p.codes
 hp:IsProps w s.pa p.props.length s.pc p.props
theorem bounds_u16 {x:Int} (h:(Lit.int .u16 x).wf=true):0≤x∧x≤65535:=by
 have h2:IntKind.u16.min≤x∧x≤IntKind.u16.max:=by simpa [Lit.wf] using h
 exact h2
section
variable {H:Type} {enc:TypeId × Value→H} {w:World} {base:Nat} {spare:Nat→Bool} {held:Bool}
set_option maxHeartbeats 4000000 in
theorem open_pkc {l:List Value} {fuel:Nat} {x:DataW H × List MemPlace} (hsz:l.length=25) (hf:DataW.trod enc Tryz.prog w base (fun _=>true) held fuel 39 l=some x) :
  ∃ p s,Value.agg l.toArray=Pk.val p s∧IsPk w p s:=by
 have u:=Tryz.underlying39
 match l,hsz with
 | [c0,c1,c2,c3,c4,c5,c6,c7,c8,c9,c10,c11,c12,c13,c14,c15,c16,c17,c18,c19,c20,c21,c22,c23,c24],_ =>
  obtain ⟨k0,y0,t0⟩:=field_at (j:=0) u hf rfl rfl (by kernel_rfl) (by simp);simp only[List.getElem_cons_succ,List.getElem_cons_zero]at t0;obtain ⟨x0,e0,_,w0⟩:=DataW.trod_int Tryz.underlying3 t0;obtain rfl:=List.singleton_inj.1 e0;obtain ⟨k1,y1,t1⟩:=field_at (j:=1) u hf rfl rfl (by kernel_rfl) (by simp);simp only[List.getElem_cons_succ,List.getElem_cons_zero]at t1;obtain ⟨x1,e1,_⟩:=DataW.trod_bool Tryz.underlying4 t1;obtain rfl:=List.singleton_inj.1 e1;obtain ⟨k2,y2,t2⟩:=field_at (j:=2) u hf rfl rfl (by kernel_rfl) (by simp);simp only[List.getElem_cons_succ,List.getElem_cons_zero]at t2;obtain ⟨x2,e2,_⟩:=DataW.trod_bool Tryz.underlying4 t2;obtain rfl:=List.singleton_inj.1 e2;obtain ⟨k3,y3,t3⟩:=field_at (j:=3) u hf rfl rfl (by kernel_rfl) (by simp);simp only[List.getElem_cons_succ,List.getElem_cons_zero]at t3;obtain ⟨x3,e3,_,w3⟩:=DataW.trod_int Tryz.underlying5 t3;obtain rfl:=List.singleton_inj.1 e3;have b3:=bounds_u8 w3;obtain ⟨n3,rfl⟩:=Int.eq_ofNat_of_zero_le b3.1;obtain ⟨k4,y4,t4⟩:=field_at (j:=4) u hf rfl rfl (by kernel_rfl) (by simp);simp only[List.getElem_cons_succ,List.getElem_cons_zero]at t4;obtain ⟨x4,e4,_,w4⟩:=DataW.trod_int Tryz.underlying30 t4;obtain rfl:=List.singleton_inj.1 e4;have b4:=bounds_u16 w4;obtain ⟨n4,rfl⟩:=Int.eq_ofNat_of_zero_le b4.1;obtain ⟨k5,y5,t5⟩:=field_at (j:=5) u hf rfl rfl (by kernel_rfl) (by simp);simp only[List.getElem_cons_succ,List.getElem_cons_zero]at t5;obtain ⟨x5,e5,_⟩:=DataW.trod_bool Tryz.underlying4 t5;obtain rfl:=List.singleton_inj.1 e5;obtain ⟨k6,y6,t6⟩:=field_at (j:=6) u hf rfl rfl (by kernel_rfl) (by simp);simp only[List.getElem_cons_succ,List.getElem_cons_zero]at t6;obtain ⟨x6,e6,_,w6⟩:=DataW.trod_int Tryz.underlying30 t6;obtain rfl:=List.singleton_inj.1 e6;have b6:=bounds_u16 w6;obtain ⟨n6,rfl⟩:=Int.eq_ofNat_of_zero_le b6.1;obtain ⟨k7,y7,t7⟩:=field_at (j:=7) u hf rfl rfl (by kernel_rfl) (by simp);simp only[List.getElem_cons_succ,List.getElem_cons_zero]at t7;obtain ⟨x7,e7,_,w7⟩:=DataW.trod_string Tryz.underlying9 t7;obtain rfl:=List.singleton_inj.1 e7;obtain ⟨k8,y8,t8⟩:=field_at (j:=8) u hf rfl rfl (by kernel_rfl) (by simp);simp only[List.getElem_cons_succ,List.getElem_cons_zero]at t8;obtain ⟨x8,e8,_⟩:=DataW.trod_bool Tryz.underlying4 t8;obtain rfl:=List.singleton_inj.1 e8;obtain ⟨k9,y9,t9⟩:=field_at (j:=9) u hf rfl rfl (by kernel_rfl) (by simp);simp only[List.getElem_cons_succ,List.getElem_cons_zero]at t9;obtain ⟨x9,e9,_⟩:=DataW.trod_bool Tryz.underlying4 t9;obtain rfl:=List.singleton_inj.1 e9;obtain ⟨k10,y10,t10⟩:=field_at (j:=10) u hf rfl rfl (by kernel_rfl) (by simp);simp only[List.getElem_cons_succ,List.getElem_cons_zero]at t10;obtain ⟨x10,e10,_⟩:=DataW.trod_bool Tryz.underlying4 t10;obtain rfl:=List.singleton_inj.1 e10;obtain ⟨k11,y11,t11⟩:=field_at (j:=11) u hf rfl rfl (by kernel_rfl) (by simp);simp only[List.getElem_cons_succ,List.getElem_cons_zero]at t11;obtain ⟨x11,e11,_,w11⟩:=DataW.trod_int Tryz.underlying5 t11;obtain rfl:=List.singleton_inj.1 e11;have b11:=bounds_u8 w11;obtain ⟨n11,rfl⟩:=Int.eq_ofNat_of_zero_le b11.1;obtain ⟨k12,y12,t12⟩:=field_at (j:=12) u hf rfl rfl (by kernel_rfl) (by simp);simp only[List.getElem_cons_succ,List.getElem_cons_zero]at t12;obtain ⟨x12,e12,_⟩:=DataW.trod_bool Tryz.underlying4 t12;obtain rfl:=List.singleton_inj.1 e12;obtain ⟨k13,y13,t13⟩:=field_at (j:=13) u hf rfl rfl (by kernel_rfl) (by simp);simp only[List.getElem_cons_succ,List.getElem_cons_zero]at t13;obtain ⟨a13,l13,q13,x13,e13,w13⟩:=open_props t13;obtain rfl:=w13.hlen;obtain rfl:=List.singleton_inj.1 e13;obtain ⟨k14,y14,t14⟩:=field_at (j:=14) u hf rfl rfl (by kernel_rfl) (by simp);simp only[List.getElem_cons_succ,List.getElem_cons_zero]at t14;obtain ⟨x14,e14,_,w14⟩:=DataW.trod_string Tryz.underlying9 t14;obtain rfl:=List.singleton_inj.1 e14;obtain ⟨k15,y15,t15⟩:=field_at (j:=15) u hf rfl rfl (by kernel_rfl) (by simp);simp only[List.getElem_cons_succ,List.getElem_cons_zero]at t15;obtain ⟨x15,e15,_,w15⟩:=DataW.trod_string Tryz.underlying9 t15;obtain rfl:=List.singleton_inj.1 e15;obtain ⟨k16,y16,t16⟩:=field_at (j:=16) u hf rfl rfl (by kernel_rfl) (by simp)
  simp only[List.getElem_cons_succ,List.getElem_cons_zero]at t16;obtain ⟨x16,e16,_,w16⟩:=DataW.trod_string Tryz.underlying9 t16;obtain rfl:=List.singleton_inj.1 e16;obtain ⟨k17,y17,t17⟩:=field_at (j:=17) u hf rfl rfl (by kernel_rfl) (by simp);simp only[List.getElem_cons_succ,List.getElem_cons_zero]at t17;obtain ⟨x17,e17,_,w17⟩:=DataW.trod_string Tryz.underlying9 t17;obtain rfl:=List.singleton_inj.1 e17;obtain ⟨k18,y18,t18⟩:=field_at (j:=18) u hf rfl rfl (by kernel_rfl) (by simp);simp only[List.getElem_cons_succ,List.getElem_cons_zero]at t18;obtain ⟨x18,e18,_⟩:=DataW.trod_bool Tryz.underlying4 t18;obtain rfl:=List.singleton_inj.1 e18;obtain ⟨k19,y19,t19⟩:=field_at (j:=19) u hf rfl rfl (by kernel_rfl) (by simp);simp only[List.getElem_cons_succ,List.getElem_cons_zero]at t19;obtain ⟨x19,e19,_,w19⟩:=DataW.trod_int Tryz.underlying5 t19;obtain rfl:=List.singleton_inj.1 e19;have b19:=bounds_u8 w19;obtain ⟨n19,rfl⟩:=Int.eq_ofNat_of_zero_le b19.1;obtain ⟨k20,y20,t20⟩:=field_at (j:=20) u hf rfl rfl (by kernel_rfl) (by simp);simp only[List.getElem_cons_succ,List.getElem_cons_zero]at t20;obtain ⟨x20,e20,_,w20⟩:=DataW.trod_string Tryz.underlying9 t20;obtain rfl:=List.singleton_inj.1 e20;obtain ⟨k21,y21,t21⟩:=field_at (j:=21) u hf rfl rfl (by kernel_rfl) (by simp);simp only[List.getElem_cons_succ,List.getElem_cons_zero]at t21;obtain ⟨x21,e21,_,w21⟩:=DataW.trod_string Tryz.underlying9 t21;obtain rfl:=List.singleton_inj.1 e21;obtain ⟨k22,y22,t22⟩:=field_at (j:=22) u hf rfl rfl (by kernel_rfl) (by simp);simp only[List.getElem_cons_succ,List.getElem_cons_zero]at t22;obtain ⟨a22,l22,q22,x22,e22,w22⟩:=open_filts t22;obtain rfl:=w22.hlen;obtain rfl:=List.singleton_inj.1 e22;obtain ⟨k23,y23,t23⟩:=field_at (j:=23) u hf rfl rfl (by kernel_rfl) (by simp);simp only[List.getElem_cons_succ,List.getElem_cons_zero]at t23
  obtain ⟨a23,l23,q23,x23,e23,w23⟩:∃ a len cap l,[c23]=[Value.slice a len cap]∧IsBytes w a len cap l:=by
   rcases open_ints Tryz.underlying26 Tryz.underlying5 (by kernel_rfl) t23 with ⟨hcs,_⟩|⟨x,l,c,zs,hcs,_,hl,hm,hz,_,hcell,hwz⟩
   ·exact ⟨none,0,0,[],hcs,rfl,.nil _ _,Nat.le_refl _,by simp,fun _=>⟨rfl,rfl⟩⟩
   ·have hr:IsRow .u8 w (some x) l c zs:=.inr ⟨_,rfl,hl,hm,by simpa using hz,hcell,hwz⟩
    exact ⟨_,l,c,_,hcs,hr.bytes⟩
  obtain rfl:=w23.hlen;obtain rfl:=List.singleton_inj.1 e23;obtain ⟨k24,y24,t24⟩:=field_at (j:=24) u hf rfl rfl (by kernel_rfl) (by simp);simp only[List.getElem_cons_succ,List.getElem_cons_zero]at t24;obtain ⟨a24,l24,q24,x24,e24,w24⟩:=open_props t24;obtain rfl:=w24.hlen;obtain rfl:=List.singleton_inj.1 e24;refine ⟨⟨x0,x1,x2,n3,n4,x5,n6,x7,x8,x9,x10,n11,x12,x13,x14,x15,x16,x17,x18,n19,x20,x21,x22,x23,x24⟩,⟨a13,q13,a22,q22,a23,q23,a24,q24⟩,rfl,?_⟩;exact ⟨w0,(by have:=b3.2;omega:n3 < 256),(by have:=b4.2;omega:n4 < 65536),(by have:=b6.2;omega:n6 < 65536),(by have:=b11.2;omega:n11 < 256),(by have:=b19.2;omega:n19 < 256),w7,w14,w15,w16,w17,w20,w21,w13,w22,w23,w24⟩
end
end Go.Proofs.YtohmcfmcbibbcaaGreatDoor
namespace Go.Proofs.YtohmcfmcbibbcaaGreatDoor
open Go.RowKit Go.ChangeShapes Go.WideShapes Go.Deep
set_option linter.unusedVariables false
set_option linter.unusedSimpArgs false
set_option maxRecDepth 100000
section
variable {H:Type} {enc:TypeId × Value→H} {w:World} {base:Nat} {spare:Nat→Bool} {held:Bool}
def Light (P:Program) (t:TypeId) (d:DataW H):Prop:=∀ n∈d.weights P t,n≤140737488351232
theorem light_each {P:Program}:∀ (ts:List TypeId) (ds:List (DataW H)),(∀ n∈DataW.weightsEach P ts ds,n≤140737488351232)→∀ (j:Nat) (t:TypeId) (d:DataW H),ts[j]?=some t→ds[j]?=some d→Light P t d
 | [],_,_,j,t,d,ht,_=>by simp at ht
 | _ :: _,[],_,j,t,d,_,hd=>by simp at hd
 | t0 :: ts,d0 :: ds,h,j,t,d,ht,hd=>by
  simp only[DataW.weightsEach,List.mem_append]at h;cases j with
  | zero =>
   simp at ht hd;subst ht hd;exact fun n hn=>h n (.inl hn)
  | succ j=>exact light_each ts ds (fun n hn=>h n (.inr hn)) j t d (by simpa using ht) (by simpa using hd)
theorem light_all {P:Program} {e:TypeId}:∀ (ds:List (DataW H)),(∀ n∈DataW.weightsAll P e ds,n≤140737488351232)→∀ d∈ds,Light P e d
 | [],_,d,hd=>by simp at hd
 | d0 :: ds,h,d,hd=>by
  simp only[DataW.weightsAll,List.mem_append]at h;rcases List.mem_cons.1 hd with rfl|hd
  ·exact fun n hn=>h n (.inl hn)
  ·exact light_all ds (fun n hn=>h n (.inr hn)) d hd
theorem light_agg {P:Program} {t:TypeId} {fs:Array Field} {ds:List (DataW H)} (u:P.underlying t=some (.struct fs)) (h:Light P t (.agg ds)):∀ (j:Nat) (f:Field) (d:DataW H),fs[j]?=some f→ds[j]?=some d→Light P f.type d:=by
 intro j f d hf hd
 have h':∀ n∈DataW.weightsEach P (fs.toList.map (·.type)) ds,n≤140737488351232:=by
  intro n hn;refine h n ?_;simp only[DataW.weights,u];exact hn
 exact light_each _ _ h' j f.type d (by rw[List.getElem?_map,Array.getElem?_toList,hf];rfl) hd
theorem field_light {P:Program} {e:TypeId} {fs:Array Field} {n:Nat} {cs:List Value} {x:DataW H × List MemPlace} (he:P.underlying e=some (.struct fs)) (h:DataW.trod enc P w base spare held n e cs=some x) (hL:Light P e x.1)
  {j:Nat} {f:Field} (hj:fs[j]?=some f) (ho:f.offset=j) (hc:P.cellsOf f.type=1) (hjl:j < cs.length):∃ k y,DataW.trod enc P w base spare held k f.type [cs[j]]=some y∧Light P f.type y.1:=by
 obtain ⟨xs,k,_,hx,_,hxl,hf⟩:=DataW.trod_struct he h;have h1:=hf j f hj;rw[ho,hc]at h1
 have e1:(cs.drop j).take 1=[cs[j]]:=by
  rw[List.drop_eq_getElem_cons hjl]
  rfl
 rw[e1]at h1;have hjx:j < xs.length:=by rw[hxl];exact (Array.getElem?_eq_some_iff.1 hj).1
 rw[List.getElem?_eq_getElem hjx]at h1;rw[hx]at hL;exact ⟨_,_,h1,light_agg he hL j f _ hj (by rw[List.getElem?_map,List.getElem?_eq_getElem hjx];rfl)⟩
theorem light_str {s:ByteArray} {t:TypeId} {P:Program} (h:Light (H:=H) P t (.lit (.string s.data.toList))):s.size≤140737488351232:=by
 have:=h s.data.toList.length (by simp[DataW.weights])
 simpa using this
theorem light_slice {P:Program} {t e:TypeId} {fuel:Nat} {a:Option Addr} {len cap:Nat} {x:DataW H × List MemPlace} (ht:P.underlying t=some (.slice e)) (hb:1≤P.bytesOf e) (h:DataW.trod enc P w base spare held fuel t [.slice a len cap]=some x) (hL:Light P t x.1) :
  len≤140737488351232∧∀ i,i < len→∃ ad cs' n y,a=some ad∧w.cells? base (ad.add (i * P.cellsOf e)) (P.cellsOf e)=some cs'∧DataW.trod enc P w base spare held n e cs'=some y∧Light P e y.1:=by
 rcases open_slice ht h with ⟨h0,_⟩|⟨ad,len',cap',m,n,D,Pl,h0,hbb,hl,hm,hmm,rfl,hx⟩
 ·simp at h0
  obtain ⟨_,rfl,_⟩:=h0;exact ⟨by omega,fun i hi=>by omega⟩
 ·simp at h0
  obtain ⟨rfl,rfl,rfl⟩:=h0;have hlm:len≤m:=by rw[hmm];split<;>omega
  have hw:∀ n∈(((List.range len).map D).length+((List.range (m - len)).map fun j=>D (len+j)).length) * P.bytesOf e :: (DataW.weightsAll P e ((List.range len).map D)++DataW.weightsAll P e ((List.range (m - len)).map fun j=>D (len+j))),n≤140737488351232:=by
   intro n hn;refine hL n ?_;simp only[DataW.weights,ht];exact hn
  have h1:=hw _ (List.mem_cons_self ..);simp only[List.length_map,List.length_range]at h1;have h2:len+(m - len)≤(len+(m - len)) * P.bytesOf e:=Nat.le_mul_of_pos_right _ hb;refine ⟨by omega,fun i hi=>?_⟩;obtain ⟨cs',hc1,hc2⟩:=hx i (by omega);refine ⟨ad,cs',n,_,rfl,hc1,hc2,?_⟩;exact light_all _ (fun n hn=>hw n (List.mem_cons_of_mem _ (List.mem_append_left _ hn))) _ (List.mem_map.2 ⟨i,List.mem_range.2 hi,rfl⟩)
set_option maxHeartbeats 1000000 in
theorem light_props {fuel:Nat} {a:Option Addr} {len cap:Nat} {L:List Pr} {x:DataW H × List MemPlace} (h:DataW.trod enc Tryz.prog w base spare held fuel 36 [.slice a len cap]=some x) (hI:IsProps w a len cap L) (hL:Light Tryz.prog 36 x.1) :
  L.length≤140737488351232∧∀ p∈L,p.a.size≤140737488351232∧p.b.size≤140737488351232:=by
 obtain ⟨h1,h2⟩:=light_slice Tryz.underlying36 (by decide +kernel) h hL;obtain ⟨hlen,hrow,_,_,_,_⟩:=hI;refine ⟨by omega,fun p hp=>?_⟩;obtain ⟨i,hi,rfl⟩:=List.getElem_of_mem hp;obtain ⟨ad,cs',n,y,rfl,hc,ht,hy⟩:=h2 i (by omega);have ce:Tryz.prog.cellsOf 123=4:=by kernel_rfl
 rw[ce]at hc;obtain ⟨_,hcl,hcell⟩:=World.cells?_some hc;obtain ⟨b,off,hab,_,_,_,q2,q3⟩:=hrow.prop hi;obtain rfl:=Option.some.inj hab;obtain ⟨k2,y2,t2,w2⟩:=field_light (j:=2) Tryz.underlying123 ht hy rfl rfl (by kernel_rfl) (by omega);obtain ⟨k3,y3,t3,w3⟩:=field_light (j:=3) Tryz.underlying123 ht hy rfl rfl (by kernel_rfl) (by omega);obtain ⟨s2,e2,f2,_⟩:=DataW.trod_string Tryz.underlying9 t2;obtain ⟨s3,e3,f3,_⟩:=DataW.trod_string Tryz.underlying9 t3;have c2:=hcell 2 (by omega);have c3:=hcell 3 (by omega);rw[Addr.add_lit,Addr.add_lit]at c2 c3;rw[q2,List.getElem?_eq_getElem (by omega),List.singleton_inj.1 e2]at c2;rw[q3,List.getElem?_eq_getElem (by omega),List.singleton_inj.1 e3]at c3;simp only[Option.some.injEq,Value.string.injEq]at c2 c3;rw[c2,c3];rw[f2]at w2;rw[f3]at w3;exact ⟨light_str w2,light_str w3⟩
set_option maxHeartbeats 1000000 in
theorem light_filts {fuel:Nat} {a:Option Addr} {len cap:Nat} {L:List Fi} {x:DataW H × List MemPlace} (h:DataW.trod enc Tryz.prog w base spare held fuel 37 [.slice a len cap]=some x) (hI:IsFilts w a len cap L) (hL:Light Tryz.prog 37 x.1) :
  L.length≤140737488351232∧∀ p∈L,p.text.size≤140737488351232:=by
 obtain ⟨h1,h2⟩:=light_slice Tryz.underlying37 (by decide +kernel) h hL;obtain ⟨hlen,hrow,_,_,_,_⟩:=hI;refine ⟨by omega,fun p hp=>?_⟩;obtain ⟨i,hi,rfl⟩:=List.getElem_of_mem hp;obtain ⟨ad,cs',n,y,rfl,hc,ht,hy⟩:=h2 i (by omega);have ce:Tryz.prog.cellsOf 79=2:=by kernel_rfl
 rw[ce]at hc;obtain ⟨_,hcl,hcell⟩:=World.cells?_some hc;obtain ⟨b,off,hab,_,q0,_⟩:=hrow.filt hi;obtain rfl:=Option.some.inj hab;obtain ⟨k0,y0,t0,w0⟩:=field_light (j:=0) Tryz.underlying79 ht hy rfl rfl (by kernel_rfl) (by omega);obtain ⟨s0,e0,f0,_⟩:=DataW.trod_string Tryz.underlying9 t0;have c0:=hcell 0 (by omega);rw[Addr.add_lit,Addr.add_lit]at c0;rw[Nat.add_zero,q0,List.getElem?_eq_getElem (by omega),List.singleton_inj.1 e0]at c0;simp only[Option.some.injEq,Value.string.injEq]at c0;rw[c0];rw[f0]at w0;exact light_str w0
set_option maxHeartbeats 4000000 in
theorem reach_pk {p:Pk} {s:Sl} {d:DataW H} {pl:List MemPlace} (h:DataW.Trod enc Tryz.prog w base (fun _=>true) held 39 (Pk.val p s) d pl) (hI:IsPk w p s) (hL:Light Tryz.prog 39 d):Reach p:=by
 have u:=Tryz.underlying39;obtain ⟨fuel,hf⟩:=h;simp only[Pk.val,Pk.cells,Value.cells]at hf;obtain ⟨k7,y7,t7,w7⟩:=field_light (j:=7) u hf hL rfl rfl (by kernel_rfl) (by simp);simp only[List.getElem_cons_succ,List.getElem_cons_zero]at t7;obtain ⟨s7,e7,f7,_⟩:=DataW.trod_string Tryz.underlying9 t7
 have r7:p.client.size≤140737488351232:=by
  have:=List.singleton_inj.1 e7
  simp only[Value.string.injEq]at this;rw[this];rw[f7]at w7;exact light_str w7
 obtain ⟨k13,y13,t13,w13⟩:=field_light (j:=13) u hf hL rfl rfl (by kernel_rfl) (by simp);simp only[List.getElem_cons_succ,List.getElem_cons_zero]at t13;have r13:=light_props t13 hI.hw w13;obtain ⟨k14,y14,t14,w14⟩:=field_light (j:=14) u hf hL rfl rfl (by kernel_rfl) (by simp);simp only[List.getElem_cons_succ,List.getElem_cons_zero]at t14;obtain ⟨s14,e14,f14,_⟩:=DataW.trod_string Tryz.underlying9 t14
 have r14:p.willTopic.size≤140737488351232:=by
  have:=List.singleton_inj.1 e14
  simp only[Value.string.injEq]at this;rw[this];rw[f14]at w14;exact light_str w14
 obtain ⟨k15,y15,t15,w15⟩:=field_light (j:=15) u hf hL rfl rfl (by kernel_rfl) (by simp);simp only[List.getElem_cons_succ,List.getElem_cons_zero]at t15;obtain ⟨s15,e15,f15,_⟩:=DataW.trod_string Tryz.underlying9 t15
 have r15:p.willLoad.size≤140737488351232:=by
  have:=List.singleton_inj.1 e15
  simp only[Value.string.injEq]at this;rw[this];rw[f15]at w15;exact light_str w15
 obtain ⟨k16,y16,t16,w16⟩:=field_light (j:=16) u hf hL rfl rfl (by kernel_rfl) (by simp);simp only[List.getElem_cons_succ,List.getElem_cons_zero]at t16;obtain ⟨s16,e16,f16,_⟩:=DataW.trod_string Tryz.underlying9 t16
 have r16:p.user.size≤140737488351232:=by
  have:=List.singleton_inj.1 e16
  simp only[Value.string.injEq]at this;rw[this];rw[f16]at w16;exact light_str w16
 obtain ⟨k17,y17,t17,w17⟩:=field_light (j:=17) u hf hL rfl rfl (by kernel_rfl) (by simp);simp only[List.getElem_cons_succ,List.getElem_cons_zero]at t17;obtain ⟨s17,e17,f17,_⟩:=DataW.trod_string Tryz.underlying9 t17
 have r17:p.pass.size≤140737488351232:=by
  have:=List.singleton_inj.1 e17
  simp only[Value.string.injEq]at this;rw[this];rw[f17]at w17;exact light_str w17
 obtain ⟨k20,y20,t20,w20⟩:=field_light (j:=20) u hf hL rfl rfl (by kernel_rfl) (by simp);simp only[List.getElem_cons_succ,List.getElem_cons_zero]at t20;obtain ⟨s20,e20,f20,_⟩:=DataW.trod_string Tryz.underlying9 t20
 have r20:p.topic.size≤140737488351232:=by
  have:=List.singleton_inj.1 e20
  simp only[Value.string.injEq]at this;rw[this];rw[f20]at w20;exact light_str w20
 obtain ⟨k21,y21,t21,w21⟩:=field_light (j:=21) u hf hL rfl rfl (by kernel_rfl) (by simp);simp only[List.getElem_cons_succ,List.getElem_cons_zero]at t21;obtain ⟨s21,e21,f21,_⟩:=DataW.trod_string Tryz.underlying9 t21
 have r21:p.load.size≤140737488351232:=by
  have:=List.singleton_inj.1 e21
  simp only[Value.string.injEq]at this;rw[this];rw[f21]at w21;exact light_str w21
 obtain ⟨k22,y22,t22,w22⟩:=field_light (j:=22) u hf hL rfl rfl (by kernel_rfl) (by simp);simp only[List.getElem_cons_succ,List.getElem_cons_zero]at t22;have r22:=light_filts t22 hI.hf w22;obtain ⟨k23,y23,t23,w23⟩:=field_light (j:=23) u hf hL rfl rfl (by kernel_rfl) (by simp);simp only[List.getElem_cons_succ,List.getElem_cons_zero]at t23;have r23:=(light_slice Tryz.underlying26 (by decide +kernel) t23 w23).1;obtain ⟨k24,y24,t24,w24⟩:=field_light (j:=24) u hf hL rfl rfl (by kernel_rfl) (by simp);simp only[List.getElem_cons_succ,List.getElem_cons_zero]at t24;have r24:=light_props t24 hI.hp w24;exact ⟨r7,r14,r15,r16,r17,r20,r21,r13.1,r22.1,r23,r24.1,r22.2,r24.2,r13.2⟩
end
end Go.Proofs.YtohmcfmcbibbcaaGreatDoor
namespace Go.Proofs.YtohmcfmcbibbcaaGreatDoor
open Go.RowKit Go.ChangeShapes Go.WideShapes Go.Deep
set_option linter.unusedVariables false
set_option linter.unusedSimpArgs false
set_option maxRecDepth 100000
structure IsPks (w:World) (a:Option Addr) (len cap:Nat) (L:List (Pk × Sl)):Prop where
 hlen:L.length=len
 hrow:Row w a (L.flatMap fun x=>(x.1.cells x.2).toList)
 hnil:a=none→cap=0
 hle:len≤cap
 each:∀ x∈L,IsPk w x.1 x.2∧Reach x.1
section
variable {H:Type} {enc:TypeId × Value→H} {w:World} {base:Nat} {held:Bool}
set_option maxHeartbeats 1000000 in
theorem open_pks {cs:List Value} {x:DataW H × List MemPlace} {fuel:Nat} (h:DataW.trod enc Tryz.prog w base (fun _=>true) held fuel 22 cs=some x) (hL:Light Tryz.prog 22 x.1) :
  ∃ a len cap L,cs=[.slice a len cap]∧IsPks w a len cap L:=by
 have hh:=h;rcases open_slice Tryz.underlying22 h with ⟨rfl,_⟩|⟨ad,len,cap,m,n,D,Pl,rfl,hb,hl,hm,hmm,e0,hx⟩
 ·exact ⟨none,0,0,[],rfl,rfl,.nil _ _,fun _=>rfl,Nat.le_refl _,by simp⟩
 obtain ⟨g1,g2⟩:=light_slice Tryz.underlying22 (by decide +kernel) hh hL;have ce:Tryz.prog.cellsOf 39=25:=by kernel_rfl
 have each:∀ i,i < len→∃ p:Pk × Sl,(∀ j u,(p.1.cells p.2).toList[j]?=some u→w.cell? (ad.add (i * 25+j))=some u)∧IsPk w p.1 p.2∧Reach p.1:=by
  intro i hi;obtain ⟨ad',cs',n',y,e1,h1,h2,h3⟩:=g2 i hi;obtain rfl:=Option.some.inj e1;rw[ce]at h1;obtain ⟨_,hlen,hcell⟩:=World.cells?_some h1;obtain ⟨p,s,e2,hI⟩:=open_pkc hlen h2
  have e3:cs'=(p.cells s).toList:=by
   have:cs'.toArray=p.cells s:=by simpa [Pk.val] using e2
   rw[← this]
  refine ⟨(p,s),fun j u hu=>?_,hI,?_⟩
  ·dsimp only at hu
   rw[← e3]at hu;have hj:j < 25:=by have:=(List.getElem?_eq_some_iff.1 hu).1;omega
   have hc:=hcell j hj;rw[← Go.Deep.add_add,hc];exact hu
  ·exact reach_pk (pl:=y.2) (d:=y.1) ⟨n',by rw[← e2];exact h2⟩ hI h3
 obtain ⟨L,q1,q2,q3⟩:=rows_of (fun x:Pk × Sl=>(x.1.cells x.2).toList) 25 (fun _=>rfl) (fun x=>IsPk w x.1 x.2∧Reach x.1) ad len each;exact ⟨some ad,len,cap,L,rfl,q1,.of_cells q2,(fun h=>by cases h),hl,q3⟩
end
end Go.Proofs.YtohmcfmcbibbcaaGreatDoor
