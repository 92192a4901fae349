import Derived.Test.YtofjhopecfmbcaaGreatDoorPrp
import Derived.Test.YtofjhopecfmbcaaGreatDoorYF1
import Derived.Deep.RegionHeld3
import Derived.Test.YtofjhopecfmbcaaGreatDoorYF2
import Derived.Lib.SliceRun
import Derived.Laws.StructEq
import Derived.Lib.AppendZerosOnto
namespace Go.Proofs.YtofjhopecfmbcaaGreatDoor
open Go.RowKit
set_option linter.unusedVariables false
set_option linter.unusedSimpArgs false
set_option maxRecDepth 100000
structure Pr where
 id:Nat
 n:Nat
 a:ByteArray
 b:ByteArray
deriving DecidableEq
def Pr.cells (p:Pr):List Value:=[.int .u8 p.id,.int .u32 p.n,.string p.a,.string p.b]
def Pr.val (p:Pr):Value:=.agg #[.int .u8 p.id,.int .u32 p.n,.string p.a,.string p.b]
structure Pr.wf (p:Pr):Prop where
 id:p.id < 256
 n:p.n < 4294967296
 a:p.a.size≤9223372036854775807
 b:p.b.size≤9223372036854775807
def Pr.zero:Pr:=⟨0,0,⟨#[]⟩,⟨#[]⟩⟩
def PC (L:List Pr):List Value:=L.flatMap Pr.cells
@[simp] theorem PC_nil:PC []=[]:=rfl
theorem PC_cons (p:Pr) (L:List Pr):PC (p :: L)=p.cells++PC L:=rfl
theorem PC_append (L M:List Pr):PC (L++M)=PC L++PC M:=by simp[PC]
theorem PC_one (p:Pr):PC [p]=p.cells:=by simp[PC]
theorem PC_length (L:List Pr):(PC L).length=L.length * 4:=by
 induction L with
 | nil=>rfl
 | cons p L ih=>rw[PC_cons,List.length_append,ih];simp[Pr.cells];omega
theorem PC_cell1 (L:List Pr):∀ u∈PC L,u.oneCell'=true:=by
 intro u hu;obtain ⟨p,_,hp⟩:=List.mem_flatMap.1 hu;simp[Pr.cells]at hp;rcases hp with rfl|rfl|rfl|rfl<;>rfl
theorem PC_get (L:List Pr):∀ (k:Nat) (h:k < L.length),(PC L)[k * 4]?=some (.int .u8 L[k].id)∧(PC L)[k * 4+1]?=some (.int .u32 L[k].n)∧(PC L)[k * 4+2]?=some (.string L[k].a)∧(PC L)[k * 4+3]?=some (.string L[k].b):=by
 induction L with
 | nil=>intro k h;simp at h
 | cons p L ih =>
  intro k h;cases k with
  | zero=>simp[PC_cons,Pr.cells]
  | succ k =>
   have h1:=ih k (by simpa using h);have e:(p.cells).length=4:=rfl;rw[PC_cons];refine ⟨?_,?_,?_,?_⟩
   ·rw[List.getElem?_append_right (by rw[e];omega),e,show (k+1) * 4 - 4=k * 4 by omega];simpa using h1.1
   ·rw[List.getElem?_append_right (by rw[e];omega),e,show (k+1) * 4+1 - 4=k * 4+1 by omega];simpa using h1.2.1
   ·rw[List.getElem?_append_right (by rw[e];omega),e,show (k+1) * 4+2 - 4=k * 4+2 by omega];simpa using h1.2.2.1
   ·rw[List.getElem?_append_right (by rw[e];omega),e,show (k+1) * 4+3 - 4=k * 4+3 by omega];simpa using h1.2.2.2
theorem Row.prop {w:World} {a:Option Addr} {L:List Pr} (h:Row w a (PC L)) {k:Nat} (hk:k < L.length) :
  ∃ b off,a=some ⟨b,off,none⟩∧b < w.heap.size∧w.cell? ⟨b,off+k * 4,none⟩=some (.int .u8 L[k].id)∧w.cell? ⟨b,off+k * 4+1,none⟩=some (.int .u32 L[k].n)∧w.cell? ⟨b,off+k * 4+2,none⟩=some (.string L[k].a)∧w.cell? ⟨b,off+k * 4+3,none⟩=some (.string L[k].b):=by
 obtain ⟨h0,h1,h2,h3⟩:=PC_get L k hk;rcases h with h|⟨b,off,ha,hb,hc⟩
 ·have:=PC_length L;rw[h]at this;simp at this;omega
 ·refine ⟨b,off,ha,hb,hc _ _ h0,?_,?_,?_⟩
  ·rw[Nat.add_assoc];exact hc _ _ h1
  ·rw[Nat.add_assoc];exact hc _ _ h2
  ·rw[Nat.add_assoc];exact hc _ _ h3
def szP (id n:Nat) (a b:ByteArray):Nat :=
 if typL id=1 then 2 else if typL id=2 then 3 else if typL id=3 then 5 else if typL id=4 then 1+(varL n).length
 else if typL id=5 then 3+a.size else if typL id=6 then 3+a.size else if typL id=7 then 5+a.size+b.size else 0
def layP (id n:Nat) (a b:ByteArray):List UInt8 :=
 if typL id=1 then addByte [byteOf id] n else if typL id=2 then addTwo [byteOf id] n else if typL id=3 then addFour [byteOf id] n else if typL id=4 then addVar [byteOf id] n
 else if typL id=7 then addBin (addBin [byteOf id] a) b else addBin [byteOf id] a
def Pr.size (p:Pr):Nat:=szP p.id p.n p.a p.b
def Pr.lay (p:Pr):List UInt8:=layP p.id p.n p.a p.b
theorem addByte_len (l:List UInt8) (x:Nat):(addByte l x).length=l.length+1:=by simp[addByte]
theorem addTwo_len (l:List UInt8) (x:Nat):(addTwo l x).length=l.length+2:=by simp[addTwo]
theorem addFour_len (l:List UInt8) (x:Nat):(addFour l x).length=l.length+4:=by simp[addFour]
theorem addVar_len (l:List UInt8) (x:Nat):(addVar l x).length=l.length+(varL x).length:=by simp[addVar]
theorem addBin_len (l:List UInt8) (s:ByteArray):(addBin l s).length=l.length+2+s.size:=by
 simp[addBin];omega
theorem varL_le (n:Nat):(varL n).length≤4:=by
 unfold varL
 split
 ·rename_i h
  have:=var7_len n h
  split at this<;>(try split at this)<;>(try split at this)<;>(try split at this)<;>omega
 ·simp
theorem Lays.from {w0 w w':World} {l:List UInt8} {e:Ending} (h:Lays w l e w') (hk:Kept No w0 w):Lays w0 l e w':=by
 obtain ⟨g,cap,h1,h2,h3,h4⟩:=h;have hs:=hk.size;refine ⟨g,cap,h1,by omega,⟨h3.1,?_⟩,hk.trans h4⟩;rcases h3.2 with h|⟨g',cap',cur,q1,q2,q3⟩
 ·exact .inl h
 ·exact .inr ⟨g',cap',cur,q1,by omega,q3⟩
set_option maxHeartbeats 4000000 in
theorem size_any (id n:Nat) (a b:ByteArray) (w:World) (hn:n < 4294967296) (ha:a.size≤9223372036854) (hb:b.size≤9223372036854) :
  Calls Tryz.prog 181 #[.agg #[.int .u8 id,.int .u32 n,.string a,.string b]] w fun e w'=>e=.returned (.int .i64 (szP id n a b))∧Kept No w w':=by
 have cT:=type_any id;have ht:=typL_le id;have hv:=varL_size n hn;have hvl:=varL_le n;unfold szP;generalize typL id=t at *;generalize (varL n).length=z at *;have HT:=Lib.hid cT;have HV:=Lib.hid hv;clear cT hv;rcases (show t=0∨t=1∨t=2∨t=3∨t=4∨t=5∨t=6∨t=7 from by omega) with rfl|rfl|rfl|rfl|rfl|rfl|rfl|rfl
 all_goals
  go_enter Tryz.func181,Tryz.ntmps181
  go_wp2_with (first
   | (go_at_call 178;refine (HT.out _).mono ?_;rintro e w1 ⟨rfl,rfl⟩)
   | (go_at_call 164;refine (HV.out _).mono ?_;rintro e w1 ⟨rfl,rfl⟩))
  go_ret
  exact ⟨by simp<;>rfl,(Kept.refl No w).alloc _⟩
structure Fits (id n:Nat) (a b:ByteArray):Prop where
 hid:id < 256
 hn:n < 4294967296
 ha:a.size≤65535
 hb:b.size≤65535
 ht:1≤typL id
def OwnB (w:World) (l:List UInt8) (e:Ending) (w':World):Prop :=
 ∃ a c,e=.returned (.slice a l.length c)∧w'.ownsRow w.heap.size 5 1 (.slice a l.length c) l.length (B8 l)∧Kept No w w'
theorem Lays.own {w w':World} {l:List UInt8} {e:Ending} (h:Lays w l e w'):OwnB w l e w':=by
 obtain ⟨g,cap,h1,_,h3,h4⟩:=h;exact ⟨_,_,h1,h3,h4⟩
theorem own_row {w:World} {base n c size:Nat} {e:TypeId} {a:Option Addr} {xs:List Value} (h:w.ownsRow base e size (.slice a n c) n xs):Row w a xs∧(a=none→n=0∧c=0):=by
 rcases h.2 with ⟨hv,h0⟩|⟨g,cap,cur,hv,hg,hb,hn,hm,hs,hx⟩
 ·injection hv with e1 e2 e3
  subst e1 e2 e3
  have:xs=[]:=List.length_eq_zero_iff.1 (by rw[h.1];simp)
  exact ⟨.inl this,fun _=>⟨rfl,rfl⟩⟩
 ·injection hv with e1 e2 e3
  subst e1;refine ⟨.of_cells fun j u hu=>h.cells (g:=g) rfl j u hu,fun h=>by cases h⟩
theorem own_emptyK (w:World) (base:Nat) (e:TypeId) (size:Nat) (hb:base≤w.heap.size):(w.alloc (.cells #[] e)).ownsRow base e size (.slice (some ⟨w.heap.size,0,none⟩) 0 0) 0 [] :=
 ⟨by simp,.inr ⟨w.heap.size,0,#[],rfl,hb,Blk.new w e #[],by omega,by simp[maxLen],by simp,by simp⟩⟩
theorem own_mono {w:World} {b0 base size n:Nat} {e:TypeId} {v:Value} {xs:List Value} (h:w.ownsRow base e size v n xs) (hb:b0≤base):w.ownsRow b0 e size v n xs:=by
 refine ⟨h.1,?_⟩;rcases h.2 with h|⟨g,cap,cur,q1,q2,q3⟩
 ·exact .inl h
 ·exact .inr ⟨g,cap,cur,q1,by omega,q3⟩
theorem OwnB.from {w0 w w':World} {l:List UInt8} {e:Ending} (h:OwnB w l e w') (hk:Kept No w0 w):OwnB w0 l e w':=by
 obtain ⟨a,c,h1,h3,h4⟩:=h;exact ⟨a,c,h1,own_mono h3 hk.size,hk.trans h4⟩
set_option maxHeartbeats 1000000 in
theorem bclone_any (a:Option Addr) (c:Nat) (l:List UInt8) (w:World) (hr:Row w a (B8 l)) (hn:a=none→l.length=0∧c=0) (hl:l.length≤140737000000000) :
  Calls Tryz.prog 21 #[.slice a l.length c] w (OwnB w l):=by
 have q36:∀ (w:World) (a:Option Addr) (n c n' c':Nat),(binOp .eql 29 (.slice a n c) (.slice none n' c')).run Tryz.prog w=.ok (.bool a.isNone) w:=fun w a n c n' c'=>Lib.run_eql_slice_nil w _ _ a n c n' c' Tryz.underlying29
 obtain ⟨i0,hi,hz0,hz1,hz2⟩:=info_parts info_u8;cases a with
 | none =>
  obtain ⟨h0,rfl⟩:=hn rfl;obtain rfl:l=[]:=List.length_eq_zero_iff.1 h0
  go_enter Tryz.func21,Tryz.ntmps21
  go_wp2
  go_ret
  exact ⟨none,0,rfl,World.ownsRow_nil _ _ _ _,Kept.refl _ _⟩
 | some ad =>
  go_enter Tryz.func21,Tryz.ntmps21
  go_wp2_with (at_builtin;refine wpList_append_row _ rfl _ _ _ rfl w.heap.size 5 i0 _ 1 Tryz.underlying29 hi hz0 hz1 hz2 rfl _ _ _ rfl (own_empty w _ _ (Nat.le_refl _)) (some ad) l.length c (B8 l) rfl (by simp) ?c0 (by simp) (B8_one _) ?c1 ?c2 ?c3 ?_;rotate_right;intro v1 w1 hown1 hg1 hv1)
  case c0=>exact hr.keptNo ((Kept.refl No w).alloc _)
  case c1=>unfold maxLen;omega
  case c2=>omega
  case c3=>simp
  go_ret
  exact (lays_not hown1 (by simp) (by simp) (by intro h;have h9:=hv1.1 h;cases h9.1) (((Kept.refl No w).alloc _).grown hg1 (own_no (own_empty w _ 5 (Nat.le_refl _))))).own
theorem info_prop:(Tryz.prog.info? 95).map (fun i=>(i.zero,i.size,i.bytes))=some (some (.agg #[.int .u8 0,.int .u32 0,.string ⟨#[]⟩,.string ⟨#[]⟩]),4,40):=by kernel_rfl
def OwnP (e:TypeId) (w:World) (L:List Pr) (ed:Ending) (w':World):Prop :=
 ∃ a c,ed=.returned (.slice a L.length c)∧w'.ownsRow w.heap.size e 4 (.slice a L.length c) L.length (PC L)∧Kept No w w'
theorem ownP_of {e:TypeId} {w w':World} {v:Value} {L:List Pr} {n:Nat} {xs:List Value} (h:w'.ownsRow w.heap.size e 4 v n xs) (hn:n=L.length) (hx:xs=PC L) (hk:Kept No w w'):OwnP e w L (.returned v) w':=by
 subst hn hx;rcases h.2 with ⟨hv,h0⟩|⟨g,cap,cur,hv,_⟩
 ·subst hv
  exact ⟨none,0,by rw[h0],by rw[h0]at h ⊢;exact h,hk⟩
 ·subst hv
  exact ⟨_,_,rfl,h,hk⟩
theorem OwnP.from {t:TypeId} {w0 w w':World} {L:List Pr} {e:Ending} (h:OwnP t w L e w') (hk:Kept No w0 w):OwnP t w0 L e w':=by
 obtain ⟨a,c,h1,h3,h4⟩:=h;exact ⟨a,c,h1,own_mono h3 hk.size,hk.trans h4⟩
theorem take_pr {L:List Pr} {j:Nat} (h:j < L.length):L.take (j+1)=L.take j++[L[j]]:=List.take_succ_eq_append_getElem h
theorem PC_length4 (L:List Pr) (p:Pr):(PC [p]).length=1 * 4:=by rw[PC_length];rfl
theorem new_prop {w:World} {t:TypeId} {p:Pr}:∀ j u,(PC [p])[j]?=some u→(w.alloc (.cells #[.int .u8 p.id,.int .u32 p.n,.string p.a,.string p.b] t)).cell? ((⟨w.heap.size,0,none⟩:Addr).add j)=some u:=by
 have h:PC [p]=[.int .u8 p.id,.int .u32 p.n,.string p.a,.string p.b]:=by rw[PC_one];rfl
 rw[h];exact new_at rfl
set_option maxHeartbeats 1000000 in
theorem pclone_any (a:Option Addr) (c:Nat) (L:List Pr) (w:World) (hr:Row w a (PC L)) (hn:a=none→L.length=0∧c=0) (hl:L.length≤100000) :
  Calls Tryz.prog 174 #[.slice a L.length c] w (OwnP 95 w L):=by
 have q36:∀ (w:World) (a:Option Addr) (n c n' c':Nat),(binOp .eql 58 (.slice a n c) (.slice none n' c')).run Tryz.prog w=.ok (.bool a.isNone) w:=fun w a n c n' c'=>Lib.run_eql_slice_nil w _ _ a n c n' c' Tryz.underlying58
 obtain ⟨i0,hi,hz0,hz1,hz2⟩:=info_parts info_prop;cases a with
 | none =>
  obtain ⟨h0,rfl⟩:=hn rfl;obtain rfl:L=[]:=List.length_eq_zero_iff.1 h0
  go_enter Tryz.func174,Tryz.ntmps174
  go_wp2
  go_ret
  exact ⟨none,0,rfl,World.ownsRow_nil _ _ _ _,Kept.refl _ _⟩
 | some ad =>
  go_enter Tryz.func174,Tryz.ntmps174
  go_wp2_with (at_builtin;refine wpList_append_own _ rfl _ _ _ rfl w.heap.size 95 i0 _ 4 40 Tryz.underlying58 hi hz0 hz1 hz2 rfl (by decide) _ _ _ rfl (own_emptyK w _ _ 4 (Nat.le_refl _)) ad L.length c (PC L) rfl (PC_length L) ?c0 (PC_cell1 _) ?c1 ?c2 ?c3 ?_;rotate_right;intro v1 w1 hown1 hg1 hv1)
  case c0=>exact (hr.keptNo ((Kept.refl No w).alloc _)).at_add ad rfl
  case c1=>unfold maxLen;omega
  case c2=>omega
  case c3=>simp
  go_ret
  exact ownP_of hown1 (by simp) (by simp) (((Kept.refl No w).alloc _).grown hg1 (own_no (own_emptyK w _ 95 4 (Nat.le_refl _))))
theorem toList_inj (a b:ByteArray):a.toList=b.toList↔a=b:=by
 rw[Lib.toList_data,Lib.toList_data];exact ⟨fun h=>ByteArray.ext (Array.toList_inj.1 h),fun h=>by rw[h]⟩
theorem neq_p (i1 n1 i2 n2:Nat) (a1 b1 a2 b2:ByteArray) (w:World):Sem.run Tryz.prog (binOp .neq 95 (.agg #[.int .u8 i1,.int .u32 n1,.string a1,.string b1]) (.agg #[.int .u8 i2,.int .u32 n2,.string a2,.string b2])) w=.ok (.bool (!decide ((⟨i1,n1,a1,b1⟩:Pr)=⟨i2,n2,a2,b2⟩))) w:=by
 have hS:Tryz.prog.underlying 95=some (.struct (Tryz.prog.fieldsOf 95)):=by kernel_rfl
 have hp:Tryz.prog.stoodInHeld 95=false:=by kernel_rfl
 rw[run_neq_struct,show (10000:Nat)=9999+1 from rfl,run_equalIn_agg w 9999 95 _ _ hS hp];simp only[Program.fieldsOf,Tryz.underlying95];have u0:=Tryz.underlying5;have u1:=Tryz.underlying93;have u2:=Tryz.underlying9
 go_simp
 by_cases h1:i1=i2<;>by_cases h2:n1=n2<;>by_cases h3:a1=a2<;>by_cases h4:b1=b2<;>simp[h1,h2,h3,h4,toList_inj,Int.natCast_inj]
theorem take_same {L M:List Pr} {j:Nat} (h:L.take j=M.take j) (h1:j < L.length) (h2:j < M.length) (he:L[j]=M[j]):L.take (j+1)=M.take (j+1):=by rw[take_pr h1,take_pr h2,h,he]
theorem ne_at {L M:List Pr} {j:Nat} (h1:j < L.length) (h2:j < M.length) (he:L[j]≠M[j]):decide (L=M)=false:=by
 refine decide_eq_false fun e=>he ?_
 subst e
 rfl
set_option maxHeartbeats 4000000 in
theorem pequal_any (a:Option Addr) (c:Nat) (L:List Pr) (a9:Option Addr) (c9:Nat) (M:List Pr) (w:World) (hr:Row w a (PC L)) (hr9:Row w a9 (PC M)) (hl:L.length≤100000) (hl9:M.length≤100000) :
  Calls Tryz.prog 139 #[.slice a L.length c,.slice a9 M.length c9] w fun e w'=>e=.returned (.bool (decide (L=M)))∧Kept No w w':=by
 by_cases hlen:L.length=M.length
 ·have HL:=Lib.hid hlen
  have hne:((L.length:Int) != (M.length:Int))=false:=by simp;omega
  clear hlen
  go_enter Tryz.func139,Tryz.ntmps139
  go_wp2
  go_loopw [13] (fun i wr=>∃ j:Nat,i=.int .i64 j∧j≤L.length∧Hid (L.take j=M.take j)∧Kept No w wr) (fun i _=>L.length - (intOf i).toNat)
  case atStart=>exact ⟨0,rfl,by omega,Lib.hid rfl,Kept.refl _ _⟩
  case round =>
   obtain ⟨j,rfl,hj,HT,hk⟩:=hrel
   by_cases hlt:j < L.length
   ·have hlt9:j < M.length:=by rw[← HL.out];exact hlt
    obtain ⟨b,off,rfl,hb,q0,q1,q2,q3⟩:=(hr.keptNo hk).prop hlt;obtain ⟨b9,of9,rfl,hb9,r0,r1,r2,r3⟩:=(hr9.keptNo hk).prop hlt9;have HS:=Lib.hid (take_same HT.out hlt hlt9);have HN:=Lib.hid (ne_at (L:=L) (M:=M) hlt hlt9);generalize L[j]=p at *;generalize M[j]=q at *;obtain ⟨i1,n1,a1,b1⟩:=p;obtain ⟨i2,n2,a2,b2⟩:=q;dsimp only at q0 q1 q2 q3 r0 r1 r2 r3
    by_cases he:(⟨i1,n1,a1,b1⟩:Pr)=⟨i2,n2,a2,b2⟩
    ·have HS2:=Lib.hid (HS.out he)
     have hq:∀ wx,Sem.run Tryz.prog (binOp .neq 95 (.agg #[.int .u8 i1,.int .u32 n1,.string a1,.string b1]) (.agg #[.int .u8 i2,.int .u32 n2,.string a2,.string b2])) wx=.ok (.bool false) wx:=fun wx=>by rw[neq_p,decide_eq_true he];rfl
     clear he HS HN
     go_wp2
     refine wp_region_held_drew (S:=(fun wx=>(wx.cell? ⟨b,off+j * 4,none⟩=some (.int .u8 i1)∧wx.cell? ⟨b,off+j * 4+1,none⟩=some (.int .u32 n1)∧wx.cell? ⟨b,off+j * 4+2,none⟩=some (.string a1)∧wx.cell? ⟨b,off+j * 4+3,none⟩=some (.string b1))∧(wx.cell? ⟨b9,of9+j * 4,none⟩=some (.int .u8 i2)∧wx.cell? ⟨b9,of9+j * 4+1,none⟩=some (.int .u32 n2)∧wx.cell? ⟨b9,of9+j * 4+2,none⟩=some (.string a2)∧wx.cell? ⟨b9,of9+j * 4+3,none⟩=some (.string b2)))) (by kernel_rfl) ?_ (fun hHeld=>?_)
     ·exact ⟨⟨q0,q1,q2,q3⟩,⟨r0,r1,r2,r3⟩⟩
     refine wtv (i:=0) (v:=?_) rfl (λwz9 hSw=>?_) ?_;rotate_left;(·(try dsimp only at hSw);go_simp;try with_reducible rfl);go_simp
     refine wtv (i:=1) (v:=?_) rfl (λwz9 hSw=>?_) ?_;rotate_left;(·(try dsimp only at hSw);go_simp;try with_reducible rfl);go_simp
     refine wtv (i:=2) (v:=?_) rfl (λwz9 hSw=>?_) ?_;rotate_left;(·(try dsimp only at hSw);go_simp;try with_reducible rfl);go_simp
     refine wtv (i:=3) (v:=(.agg #[.int .u8 i1,.int .u32 n1,.string a1,.string b1])) rfl (λwz9 hSw=>?_) ?_;(·(try dsimp only at hSw);go_simp;try with_reducible rfl);go_simp
     refine wtv (i:=4) (v:=?_) rfl (λwz9 hSw=>?_) ?_;rotate_left;(·(try dsimp only at hSw);go_simp;try with_reducible rfl);go_simp
     refine wtv (i:=5) (v:=?_) rfl (λwz9 hSw=>?_) ?_;rotate_left;(·(try dsimp only at hSw);go_simp;try with_reducible rfl);go_simp
     refine wtv (i:=6) (v:=?_) rfl (λwz9 hSw=>?_) ?_;rotate_left;(·(try dsimp only at hSw);go_simp;try with_reducible rfl);go_simp
     refine wtv (i:=7) (v:=(.agg #[.int .u8 i2,.int .u32 n2,.string a2,.string b2])) rfl (λwz9 hSw=>?_) ?_;(·(try dsimp only at hSw);go_simp;try with_reducible rfl);go_simp
     refine wtv (i:=8) (v:=(.bool false)) rfl (λwz9 hSw=>?_) ?_;(·(try dsimp only at hSw);go_simp;try with_reducible rfl);go_simp
     refine wpAnyH_done (by kernel_rfl) ?_ _
     go_wp2
     go_roundw
     case rel=>exact ⟨j+1,by go_num,by omega,HS2,hk.drew⟩
     case measure=>simp[intOf];omega
    ·have HN2:=Lib.hid (HN.out he)
     have hq:∀ wx,Sem.run Tryz.prog (binOp .neq 95 (.agg #[.int .u8 i1,.int .u32 n1,.string a1,.string b1]) (.agg #[.int .u8 i2,.int .u32 n2,.string a2,.string b2])) wx=.ok (.bool true) wx:=fun wx=>by rw[neq_p,decide_eq_false he];rfl
     clear he HS HN
     go_wp2
     refine wp_region_held_drew (S:=(fun wx=>(wx.cell? ⟨b,off+j * 4,none⟩=some (.int .u8 i1)∧wx.cell? ⟨b,off+j * 4+1,none⟩=some (.int .u32 n1)∧wx.cell? ⟨b,off+j * 4+2,none⟩=some (.string a1)∧wx.cell? ⟨b,off+j * 4+3,none⟩=some (.string b1))∧(wx.cell? ⟨b9,of9+j * 4,none⟩=some (.int .u8 i2)∧wx.cell? ⟨b9,of9+j * 4+1,none⟩=some (.int .u32 n2)∧wx.cell? ⟨b9,of9+j * 4+2,none⟩=some (.string a2)∧wx.cell? ⟨b9,of9+j * 4+3,none⟩=some (.string b2)))) (by kernel_rfl) ?_ (fun hHeld=>?_)
     ·exact ⟨⟨q0,q1,q2,q3⟩,⟨r0,r1,r2,r3⟩⟩
     refine wtv (i:=0) (v:=?_) rfl (λwz9 hSw=>?_) ?_;rotate_left;(·(try dsimp only at hSw);go_simp;try with_reducible rfl);go_simp
     refine wtv (i:=1) (v:=?_) rfl (λwz9 hSw=>?_) ?_;rotate_left;(·(try dsimp only at hSw);go_simp;try with_reducible rfl);go_simp
     refine wtv (i:=2) (v:=?_) rfl (λwz9 hSw=>?_) ?_;rotate_left;(·(try dsimp only at hSw);go_simp;try with_reducible rfl);go_simp
     refine wtv (i:=3) (v:=(.agg #[.int .u8 i1,.int .u32 n1,.string a1,.string b1])) rfl (λwz9 hSw=>?_) ?_;(·(try dsimp only at hSw);go_simp;try with_reducible rfl);go_simp
     refine wtv (i:=4) (v:=?_) rfl (λwz9 hSw=>?_) ?_;rotate_left;(·(try dsimp only at hSw);go_simp;try with_reducible rfl);go_simp
     refine wtv (i:=5) (v:=?_) rfl (λwz9 hSw=>?_) ?_;rotate_left;(·(try dsimp only at hSw);go_simp;try with_reducible rfl);go_simp
     refine wtv (i:=6) (v:=?_) rfl (λwz9 hSw=>?_) ?_;rotate_left;(·(try dsimp only at hSw);go_simp;try with_reducible rfl);go_simp
     refine wtv (i:=7) (v:=(.agg #[.int .u8 i2,.int .u32 n2,.string a2,.string b2])) rfl (λwz9 hSw=>?_) ?_;(·(try dsimp only at hSw);go_simp;try with_reducible rfl);go_simp
     refine wtv (i:=8) (v:=(.bool true)) rfl (λwz9 hSw=>?_) ?_;(·(try dsimp only at hSw);go_simp;try with_reducible rfl);go_simp
     refine wpAnyH_done (by kernel_rfl) ?_ _
     go_wp2
     go_ret
     exact ⟨by rw[HN2.out];rfl,hk.drew⟩
   ·have HE:Hid (decide (L=M)=true):=Lib.hid (by
     have:=HT.out
     have h9:=HL.out;rw[List.take_of_length_le (by omega),List.take_of_length_le (by omega)]at this;exact decide_eq_true this)
    go_wp2
    go_ret
    exact ⟨by rw[HE.out];rfl,hk⟩
 ·have hne:((L.length:Int) != (M.length:Int))=true:=by simp;omega
  have HE:Hid (decide (L=M)=false):=Lib.hid (decide_eq_false fun e=>hlen (by rw[e]));generalize decide (L=M)=DD at *;clear hlen
  go_enter Tryz.func139,Tryz.ntmps139
  go_wp2
  go_ret
  exact ⟨by rw[HE.out];rfl,Kept.refl _ _⟩
theorem psame_any (a:Option Addr) (c:Nat) (L:List Pr) (a9:Option Addr) (c9:Nat) (M:List Pr) (w:World) (hr:Row w a (PC L)) (hr9:Row w a9 (PC M)) (hl:L.length≤100000) (hl9:M.length≤100000) :
  Calls Tryz.prog 110 #[.slice a L.length c,.slice a9 M.length c9] w fun e w'=>e=.returned (.bool (decide (L=M)))∧Kept No w w':=by
 have HE:=Lib.hid (fun wx h1 h2=>pequal_any a c L a9 c9 M wx h1 h2 hl hl9);generalize decide (L=M)=DD at *
 go_enter Tryz.func110,Tryz.ntmps110
 go_wp2_with (go_at_call 139;refine (HE.out _ hr hr9).mono ?_;rintro e w1 ⟨rfl,hk⟩)
 go_ret
 exact ⟨rfl,hk⟩
def Pr.ok (p:Pr):Bool:=rightB p.id p.n p.a p.b
structure Pr.wf' (p:Pr):Prop where
 hid:p.id < 256
 hn:p.n < 4294967296
 ha:p.a.size≤9223372036854
 hb:p.b.size≤9223372036854
theorem size_of_empty {a:ByteArray} (h:a.toList.isEmpty=true):a.size=0:=by
 rw[Lib.toList_data]at h
 have:a.data.toList=[]:=by simpa using h
 rw[← sz_list,this];rfl
theorem num_facts {n m:Nat} {a b:ByteArray} (h:numB n m a b=true):n≤m∧a.size=0∧b.size=0:=by
 unfold numB noTexts at h;rw[Bool.and_eq_true,Bool.and_eq_true]at h;exact ⟨of_decide_eq_true h.1,size_of_empty h.2.1,size_of_empty h.2.2⟩
theorem fits_of {id n:Nat} {a b:ByteArray} (h8:id < 256) (hn:n < 4294967296) (h:rightB id n a b=true):Fits id n a b∧(typL id=4→n≤268435455):=by
 have ht:=typL_le id
 have key:1≤typL id∧a.size≤65535∧b.size≤65535∧(typL id=4→n≤268435455):=by
  unfold rightB at h;generalize typL id=t at *;rcases (show t=0∨t=1∨t=2∨t=3∨t=4∨t=5∨t=6∨t=7 from by omega) with rfl|rfl|rfl|rfl|rfl|rfl|rfl|rfl
  ·exact absurd h (by simp[rightT])
  ·have:=num_facts (m:=255) h;omega
  ·have:=num_facts (m:=65535) h;omega
  ·have:=num_facts (m:=4294967295) h;omega
  ·have:=num_facts (m:=268435455) h;omega
  ·have h':(decide (n=0)&&(okText a&&b.toList.isEmpty))=true:=h
   rw[Bool.and_eq_true,Bool.and_eq_true]at h';have h1:=okText_size h'.2.1;have h2:=size_of_empty h'.2.2;omega
  ·have h':(decide (n=0)&&(decide (a.size≤65535)&&b.toList.isEmpty))=true:=h
   rw[Bool.and_eq_true,Bool.and_eq_true]at h';have h1:=of_decide_eq_true h'.2.1;have h2:=size_of_empty h'.2.2;omega
  ·have h':(decide (n=0)&&(okText a&&okText b))=true:=h
   rw[Bool.and_eq_true,Bool.and_eq_true]at h';have h1:=okText_size h'.2.1;have h2:=okText_size h'.2.2;omega
 exact ⟨⟨h8,hn,key.2.1,key.2.2.1,key.1⟩,key.2.2.2⟩
theorem varL_pos {n:Nat} (h:n≤268435455):1≤(varL n).length:=by
 unfold varL;rw[if_pos h,var7]
 split<;>simp
theorem szP_le {id n:Nat} {a b:ByteArray} (h:Fits id n a b) (h4:typL id=4→n≤268435455):2≤szP id n a b∧szP id n a b≤131075:=by
 have h1:=h.ha;have h2:=h.hb;have h3:=h.ht;have h5:=typL_le id;have h6:=varL_le n;have h7:=fun e=>varL_pos (h4 e)
 unfold szP;generalize typL id=t at *;rcases (show t=1∨t=2∨t=3∨t=4∨t=5∨t=6∨t=7 from by omega) with rfl|rfl|rfl|rfl|rfl|rfl|rfl
 all_goals simp only[Nat.reduceEqDiff,if_true,if_false]
 all_goals first|omega|(have:=h7 rfl;omega)
theorem layP_len {id n:Nat} {a b:ByteArray} (h:Fits id n a b):(layP id n a b).length=szP id n a b:=by
 have h3:=h.ht;have h5:=typL_le id;unfold szP layP;generalize typL id=t at *;rcases (show t=1∨t=2∨t=3∨t=4∨t=5∨t=6∨t=7 from by omega) with rfl|rfl|rfl|rfl|rfl|rfl|rfl
 all_goals simp only[Nat.reduceEqDiff,if_true,if_false,addByte_len,addTwo_len,addFour_len,addVar_len,addBin_len,List.length_cons,List.length_nil]
 all_goals omega
def lenGo:List Pr→Nat→Option Nat
 | [],n=>some n
 | p :: t,n=>if p.ok then (if n+p.size≤268435455 then lenGo t (n+p.size) else none) else none
def LenIs (r:Option Nat) (w:World) (e:Ending) (w':World):Prop :=
 (e=match r with|some n=>.returned (.tuple #[.int .i64 (n:Nat),.bool true])|none=>.returned (.tuple #[.int .i64 0,.bool false]))∧Kept No w w'
theorem drop_pr {L:List Pr} {j:Nat} (h:j < L.length):L.drop j=L[j] :: L.drop (j+1):=List.drop_eq_getElem_cons h
set_option maxHeartbeats 4000000 in
theorem length_any (a:Option Addr) (c:Nat) (L:List Pr) (w:World) (hr:Row w a (PC L)) (hl:L.length≤100000) (hw:∀ p∈L,p.wf') (hT:Tabs w) :
  Calls Tryz.prog 163 #[.slice a L.length c] w (LenIs (lenGo L 0) w):=by
 have HW:=Lib.hid hw;generalize hR:lenGo L 0=R;have HR:=Lib.hid hR;clear hw hR
 go_enter Tryz.func163,Tryz.ntmps163
 go_wp2
 go_loopw [4,9] (fun s i wr=>∃ j n:Nat,i=.int .i64 j∧s=.int .i64 n∧n≤268435455∧j≤L.length∧Hid (lenGo (L.drop j) n=R)∧Kept No w wr) (fun _ i _=>L.length - (intOf i).toNat)
 case atStart=>exact ⟨0,0,rfl,rfl,by omega,by omega,Lib.hid (by rw[List.drop_zero];exact HR.out),Kept.refl _ _⟩
 case round =>
  obtain ⟨j,n,rfl,rfl,hn,hj,HG,hk⟩:=hrel
  by_cases hlt:j < L.length
  ·obtain ⟨b,off,rfl,hb,q0,q1,q2,q3⟩:=(hr.keptNo hk).prop hlt
   have HD:=Lib.hid (drop_pr hlt);have hp:=HW.out _ (List.getElem_mem hlt);generalize L[j]=p at *;obtain ⟨id,pn,A,B⟩:=p;obtain ⟨p1,p2,p3,p4⟩:=hp;dsimp only at q0 q1 q2 q3 p1 p2 p3 p4;have cR:=fun wx hT=>pright_any id pn A B wx hT p1 p2 (by omega) (by omega)
   have hB0:=Lib.hid (Blk.new wr 95 #[.int .u8 id,.int .u32 pn,.string A,.string B]);have hTr:=Lib.hid ((hT.kept hk).kept ((Kept.refl No wr).alloc (.cells #[.int .u8 id,.int .u32 pn,.string A,.string B] 95)));rcases hok:rightB id pn A B with _|_
   ·rw[hok]at cR
    have HC:=Lib.hid cR;have HE:Hid (R=none):=Lib.hid (by rw[← HG.out,HD.out,lenGo];simp[Pr.ok,hok]);clear cR hok
    go_wp2_with (go_at_call 160;refine (HC.out _ hTr.out).mono ?_;rintro e w2 ⟨rfl,hk2⟩)
    go_ret2
    exact ⟨by rw[HE.out];rfl,(hk.alloc _).trans hk2⟩
   ·rw[hok]at cR
    have HC:=Lib.hid cR;obtain ⟨hf,hf4⟩:=fits_of p1 p2 hok;have hsz:=szP_le hf hf4;have cS:=fun wx=>size_any id pn A B wx p2 p3 p4
    have HG2:Hid ((if n+szP id pn A B≤268435455 then lenGo (L.drop (j+1)) (n+szP id pn A B) else none)=R):=Lib.hid (by rw[← HG.out,HD.out,lenGo];simp only[Pr.ok,Pr.size,hok];rfl);generalize szP id pn A B=z at *;have HS:=Lib.hid cS;clear cR cS hok hf hf4
    by_cases hbig:n+z≤268435455
    ·have hbI:decide ((268435455:Int) < (n:Int)+z)=false:=by simp;omega
     have HG3:Hid (lenGo (L.drop (j+1)) (n+z)=R):=Lib.hid (by rw[← HG2.out,if_pos hbig])
     go_wp2_with (first
      | (go_at_call 160;refine (HC.out _ hTr.out).mono ?_;rintro e w2 ⟨rfl,hk2⟩;have s0:=(hB0.out.kept hk2 (fun f=>f)).cell 0;have s1:=(hB0.out.kept hk2 (fun f=>f)).cell 1;have s2:=(hB0.out.kept hk2 (fun f=>f)).cell 2;have s3:=(hB0.out.kept hk2 (fun f=>f)).cell 3;simp at s0 s1 s2 s3)
      | (go_at_call 181;refine (HS.out _).mono ?_;rintro e w3 ⟨rfl,hk3⟩))
     go_roundw
     case rel=>exact ⟨j+1,n+z,by go_num,by go_num,hbig,by omega,HG3,((hk.alloc _).trans hk2).trans hk3⟩
     case measure=>simp[intOf];omega
    ·have hbI:(268435455:Int) < (n:Int)+z:=by omega
     have HE:Hid (R=none):=Lib.hid (by rw[← HG2.out,if_neg hbig])
     go_wp2_with (first
      | (go_at_call 160;refine (HC.out _ hTr.out).mono ?_;rintro e w2 ⟨rfl,hk2⟩;have s0:=(hB0.out.kept hk2 (fun f=>f)).cell 0;have s1:=(hB0.out.kept hk2 (fun f=>f)).cell 1;have s2:=(hB0.out.kept hk2 (fun f=>f)).cell 2;have s3:=(hB0.out.kept hk2 (fun f=>f)).cell 3;simp at s0 s1 s2 s3)
      | (go_at_call 181;refine (HS.out _).mono ?_;rintro e w3 ⟨rfl,hk3⟩))
     go_ret2
     exact ⟨by rw[HE.out];rfl,((hk.alloc _).trans hk2).trans hk3⟩
  ·have HE:Hid (R=some n):=Lib.hid (by rw[← HG.out,List.drop_of_length_le (by omega)];rfl)
   go_wp2
   go_ret2
   exact ⟨by rw[HE.out];rfl,hk⟩
def layAll (L:List Pr):List UInt8:=L.flatMap Pr.lay
theorem Pr.fits {p:Pr} (h:p.wf') (hk:p.ok=true):Fits p.id p.n p.a p.b:=(fits_of h.hid h.hn hk).1
theorem lenGo_some:∀ (L:List Pr) (m n:Nat),(∀ p∈L,p.wf')→lenGo L m=some n→m≤268435455→(∀ p∈L,p.ok=true)∧m+(layAll L).length=n∧n≤268435455
 | [],m,n,_,h,hm=>by
  injection h with h;subst h;exact ⟨by simp,by simp[layAll],hm⟩
 | p :: t,m,n,hw,h,hm=>by
  rw[lenGo]at h
  split at h
  ·rename_i hk
   split at h
   ·rename_i hb
    obtain ⟨h1,h2,h3⟩:=lenGo_some t _ n (fun q hq=>hw q (List.mem_cons_of_mem _ hq)) h hb;have hl:p.lay.length=p.size:=layP_len (Pr.fits (hw p (by simp)) hk);refine ⟨fun q hq=>?_,?_,h3⟩
    ·rcases List.mem_cons.1 hq with rfl|hq
     ·exact hk
     ·exact h1 q hq
    ·rw[show layAll (p :: t)=p.lay++layAll t from rfl,List.length_append,hl];omega
   ·cases h
  ·cases h
def putL (l:List UInt8) (L:List Pr):List UInt8:=match lenGo L 0 with|some n=>addVar l n++layAll L|none=>l
def sizeR (L:List Pr):Nat:=match lenGo L 0 with|some n=>(varL n).length+n|none=>0
set_option maxHeartbeats 1000000 in
theorem psize_any (a9:Option Addr) (c9:Nat) (L:List Pr) (w:World) (hr9:Row w a9 (PC L)) (hl9:L.length≤100000) (hw:∀ p∈L,p.wf') (hT:Tabs w) :
  Calls Tryz.prog 145 #[.slice a9 L.length c9] w fun e w'=>e=.returned (.int .i64 (sizeR L))∧Kept No w w':=by
 have cL:=length_any a9 c9 L w hr9 hl9 hw hT;unfold sizeR;rcases hG:lenGo L 0 with _|n
 ·dsimp only
  rw[hG]at cL;have HC:=Lib.hid cL;clear cL hG
  go_enter Tryz.func145,Tryz.ntmps145
  go_wp2_with (go_at_call 163;refine HC.out.mono ?_;rintro e w1 ⟨rfl,hk1⟩)
  go_ret
  exact ⟨rfl,hk1⟩
 ·dsimp only
  rw[hG]at cL;have HC:=Lib.hid cL;obtain ⟨hok,hlen,hn9⟩:=lenGo_some L 0 n hw hG (by omega);have hv:=varL_size n (by omega);have hvl:=varL_le n;generalize (varL n).length=z at *;have HV:=Lib.hid hv;clear cL hG hok hw hlen hv
  go_enter Tryz.func145,Tryz.ntmps145
  go_wp2_with (first
   | (go_at_call 163;refine HC.out.mono ?_;rintro e w1 ⟨rfl,hk1⟩)
   | (go_at_call 164;refine (HV.out _).mono ?_;rintro e w2 ⟨rfl,rfl⟩))
  go_ret
  exact ⟨by simp,hk1⟩
theorem lenGo_all:∀ (L:List Pr) (m:Nat),(∀ p∈L,p.wf')→(∀ p∈L,p.ok=true)→m+(layAll L).length≤268435455→lenGo L m=some (m+(layAll L).length)
 | [],m,_,_,_=>rfl
 | p :: t,m,hw,hk,h=>by
  have hl:p.lay.length=p.size:=layP_len (Pr.fits (hw p (by simp)) (hk p (by simp)));have e:(layAll (p :: t)).length=p.size+(layAll t).length:=by rw[show layAll (p :: t)=p.lay++layAll t from rfl,List.length_append,hl]
  rw[e]at h ⊢;rw[lenGo,if_pos (hk p (by simp)),if_pos (by omega),lenGo_all t _ (fun q hq=>hw q (List.mem_cons_of_mem _ hq)) (fun q hq=>hk q (List.mem_cons_of_mem _ hq)) (by omega)]
  congr 1
  omega
theorem own_form {w:World} {base n size:Nat} {e:TypeId} {v:Value} {xs:List Value} (h:w.ownsRow base e size v n xs):∃ a c,v=.slice a n c∧Row w a xs∧(a=none→n=0∧c=0):=by
 rcases h.2 with ⟨hv,h0⟩|⟨g,cap,cur,hv,_⟩
 ·subst hv h0
  exact ⟨none,0,rfl,(own_row h).1,fun _=>⟨rfl,rfl⟩⟩
 ·subst hv
  exact ⟨_,_,rfl,(own_row h).1,fun h=>by cases h⟩
end Go.Proofs.YtofjhopecfmbcaaGreatDoor
