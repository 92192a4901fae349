import Derived.Test.YtnehnjklgglliaaGreatDoorPrp
import Derived.Test.YtnehnjklgglliaaGreatDoorYF1
import Derived.Deep.RegionHeld3
import Derived.Test.YtnehnjklgglliaaGreatDoorYF2
import Derived.Lib.SliceRun
import Derived.Laws.StructEq
import Derived.Lib.AppendZerosOnto
namespace Go.Proofs.YtnehnjklgglliaaGreatDoor
set_option maxHeartbeats 4000000
open Go.RowKit
set_option linter.unusedVariables false
set_option linter.unusedSimpArgs false
set_option maxRecDepth 100000
structure Pr where
 id:Nat
 n:Nat
 a:ByteArray
 b:ByteArray
deriving DecidableEq
def Pr.cells (p:Pr):List Value:=[.int .u8 p.id,.int .u32 p.n,.string p.a,.string p.b]
def Pr.val (p:Pr):Value:=.agg #[.int .u8 p.id,.int .u32 p.n,.string p.a,.string p.b]
structure Pr.wf (p:Pr):Prop where
 id:p.id<256
 n:p.n<4294967296
 a:p.a.size≤9223372036854775807
 b:p.b.size≤9223372036854775807
def Pr.zero:Pr:=⟨0,0,⟨#[]⟩,⟨#[]⟩⟩
def PC (L:List Pr):List Value:=L.flatMap Pr.cells
@[simp] theorem jPo:PC []=[]:=rfl
theorem j44 (p:Pr) (L:List Pr):PC (p :: L)=p.cells++PC L:=rfl
theorem zp (L M:List Pr):PC (L++M)=PC L++PC M:=by simp[PC]
theorem jAx (p:Pr):PC [p]=p.cells:=by simp[PC]
theorem vL (L:List Pr):(PC L).length=L.length*4:=by
 induction L with
 | nil=>rfl
 | cons p L ih=>rw[j44,List.length_append,ih];simp[Pr.cells];omega
theorem xv (L:List Pr):∀ u∈PC L,u.oneCell'=true:=by
 intro u hu;obtain ⟨p,_,hp⟩:=List.mem_flatMap.1 hu;simp[Pr.cells]at hp;rcases hp with rfl|rfl|rfl|rfl<;>rfl
theorem jLt (L:List Pr):∀ (k:Nat) (h:k<L.length),(PC L)[k*4]?=some (.int .u8 L[k].id)∧(PC L)[k*4+1]?=some (.int .u32 L[k].n)∧(PC L)[k*4+2]?=some (.string L[k].a)∧(PC L)[k*4+3]?=some (.string L[k].b):=by
 induction L with
 | nil=>intro k h;simp at h
 | cons p L ih =>
  intro k h;cases k with
  | zero=>simp[j44,Pr.cells]
  | succ k =>
   have h1:=ih k (by simpa using h);have e:(p.cells).length=4:=rfl;rw[j44];refine ⟨?_,?_,?_,?_⟩
   ·rw[List.getElem?_append_right (by rw[e];omega),e,show (k+1)*4 - 4=k*4 by omega];simpa using h1.1
   ·rw[List.getElem?_append_right (by rw[e];omega),e,show (k+1)*4+1 - 4=k*4+1 by omega];simpa using h1.2.1
   ·rw[List.getElem?_append_right (by rw[e];omega),e,show (k+1)*4+2 - 4=k*4+2 by omega];simpa using h1.2.2.1
   ·rw[List.getElem?_append_right (by rw[e];omega),e,show (k+1)*4+3 - 4=k*4+3 by omega];simpa using h1.2.2.2
theorem Row.prop {w:World} {a:Option Addr} {L:List Pr} (h:Row w a (PC L)) {k:Nat} (hk:k<L.length) :
  ∃ b off,a=some ⟨b,off,none⟩∧b<w.heap.size∧w.cell? ⟨b,off+k*4,none⟩=some (.int .u8 L[k].id)∧w.cell? ⟨b,off+k*4+1,none⟩=some (.int .u32 L[k].n)∧w.cell? ⟨b,off+k*4+2,none⟩=some (.string L[k].a)∧w.cell? ⟨b,off+k*4+3,none⟩=some (.string L[k].b):=by
 obtain ⟨h0,h1,h2,h3⟩:=jLt L k hk;rcases h with h|⟨b,off,ha,hb,hc⟩
 ·have:=vL L;rw[h]at this;simp at this;omega
 ·refine ⟨b,off,ha,hb,hc _ _ h0,?_,?_,?_⟩
  ·rw[Nat.add_assoc];exact hc _ _ h1
  ·rw[Nat.add_assoc];exact hc _ _ h2
  ·rw[Nat.add_assoc];exact hc _ _ h3
def szP (id n:Nat) (a b:ByteArray):Nat :=
 if qh id=1 then 2 else if qh id=2 then 3 else if qh id=3 then 5 else if qh id=4 then 1+(j1g n).length
 else if qh id=5 then 3+a.size else if qh id=6 then 3+a.size else if qh id=7 then 5+a.size+b.size else 0
def jH6 (id n:Nat) (a b:ByteArray):List UInt8 :=
 if qh id=1 then j45 [jg id] n else if qh id=2 then j7u [jg id] n else if qh id=3 then j46 [jg id] n else if qh id=4 then j1u [jg id] n
 else if qh id=7 then zI (zI [jg id] a) b else zI [jg id] a
def Pr.size (p:Pr):Nat:=szP p.id p.n p.a p.b
def Pr.lay (p:Pr):List UInt8:=jH6 p.id p.n p.a p.b
theorem j92 (l:List UInt8) (x:Nat):(j45 l x).length=l.length+1:=by simp[j45]
theorem jB1 (l:List UInt8) (x:Nat):(j7u l x).length=l.length+2:=by simp[j7u]
theorem j93 (l:List UInt8) (x:Nat):(j46 l x).length=l.length+4:=by simp[j46]
theorem jB2 (l:List UInt8) (x:Nat):(j1u l x).length=l.length+(j1g x).length:=by simp[j1u]
theorem jB0 (l:List UInt8) (s:ByteArray):(zI l s).length=l.length+2+s.size:=by
 simp[zI];omega
theorem j4p (n:Nat):(j1g n).length≤4:=by
 unfold j1g
 split
 ·rename_i h
  have:=jAt n h
  split at this<;>(try split at this)<;>(try split at this)<;>(try split at this)<;>omega
 ·simp
theorem Lays.from {w0 w w':World} {l:List UInt8} {e:Ending} (h:Lays w l e w') (hk:Kept No w0 w):Lays w0 l e w':=by
 obtain ⟨g,cap,h1,h2,h3,h4⟩:=h;have hs:=hk.size;refine ⟨g,cap,h1,by omega,⟨h3.1,?_⟩,hk.trans h4⟩;rcases h3.2 with h|⟨g',cap',cur,q1,q2,q3⟩
 ·exact .inl h
 ·exact .inr ⟨g',cap',cur,q1,by omega,q3⟩
theorem jHv (id n:Nat) (a b:ByteArray) (w:World) (hn:n<4294967296) (ha:a.size≤9223372036854) (hb:b.size≤9223372036854) :
  Calls Tryz.prog 156 #[.agg #[.int .u8 id,.int .u32 n,.string a,.string b]] w λe w'=>e=.returned (.int .i64 (szP id n a b))∧Kept No w w':=by
 have cT:=j6g id;have ht:=zD id;have hv:=j7r n hn;have hvl:=j4p n;unfold szP;generalize qh id=t at *;generalize (j1g n).length=z at *;have HT:=Lib.hid cT;have HV:=Lib.hid hv;clear cT hv;rcases (show t=0∨t=1∨t=2∨t=3∨t=4∨t=5∨t=6∨t=7 from by omega) with rfl|rfl|rfl|rfl|rfl|rfl|rfl|rfl
 all_goals
  go_enter Tryz.func156,Tryz.ntmps156
  go_wp2_with (first
   | (go_at_call 144;refine (HT.out _).mono ?_;rintro e w1 ⟨rfl,rfl⟩)
   | (go_at_call 133;refine (HV.out _).mono ?_;rintro e w1 ⟨rfl,rfl⟩))
  go_ret
  exact ⟨by simp<;>rfl,(Kept.refl No w).alloc _⟩
structure jIe (id n:Nat) (a b:ByteArray):Prop where
 hid:id<256
 hn:n<4294967296
 ha:a.size≤65535
 hb:b.size≤65535
 ht:1≤qh id
def OwnB (w:World) (l:List UInt8) (e:Ending) (w':World):Prop :=
 ∃ a c,e=.returned (.slice a l.length c)∧w'.ownsRow w.heap.size 5 1 (.slice a l.length c) l.length (B8 l)∧Kept No w w'
theorem Lays.own {w w':World} {l:List UInt8} {e:Ending} (h:Lays w l e w'):OwnB w l e w':=by
 obtain ⟨g,cap,h1,_,h3,h4⟩:=h;exact ⟨_,_,h1,h3,h4⟩
theorem qi {w:World} {base n c size:Nat} {e:TypeId} {a:Option Addr} {xs:List Value} (h:w.ownsRow base e size (.slice a n c) n xs):Row w a xs∧(a=none→n=0∧c=0):=by
 rcases h.2 with ⟨hv,h0⟩|⟨g,cap,cur,hv,hg,hb,hn,hm,hs,hx⟩
 ·injection hv with e1 e2 e3
  subst e1 e2 e3
  have:xs=[]:=List.length_eq_zero_iff.1 (by rw[h.1];simp)
  exact ⟨.inl this,λ_=>⟨rfl,rfl⟩⟩
 ·injection hv with e1 e2 e3
  subst e1;refine ⟨.of_cells λj u hu=>h.cells (g:=g) rfl j u hu,λh=>by cases h⟩
theorem vh (w:World) (base:Nat) (e:TypeId) (size:Nat) (hb:base≤w.heap.size):(w.alloc (.cells #[] e)).ownsRow base e size (.slice (some ⟨w.heap.size,0,none⟩) 0 0) 0 [] :=
 ⟨by simp,.inr ⟨w.heap.size,0,#[],rfl,hb,Blk.new w e #[],by omega,by simp[maxLen],by simp,by simp⟩⟩
theorem j5r {w:World} {b0 base size n:Nat} {e:TypeId} {v:Value} {xs:List Value} (h:w.ownsRow base e size v n xs) (hb:b0≤base):w.ownsRow b0 e size v n xs:=by
 refine ⟨h.1,?_⟩;rcases h.2 with h|⟨g,cap,cur,q1,q2,q3⟩
 ·exact .inl h
 ·exact .inr ⟨g,cap,cur,q1,by omega,q3⟩
theorem OwnB.from {w0 w w':World} {l:List UInt8} {e:Ending} (h:OwnB w l e w') (hk:Kept No w0 w):OwnB w0 l e w':=by
 obtain ⟨a,c,h1,h3,h4⟩:=h;exact ⟨a,c,h1,j5r h3 hk.size,hk.trans h4⟩
theorem jB3 (a:Option Addr) (c:Nat) (l:List UInt8) (w:World) (hr:Row w a (B8 l)) (hn:a=none→l.length=0∧c=0) (hl:l.length≤140737000000000) :
  Calls Tryz.prog 137 #[.slice a l.length c] w (OwnB w l):=by
 have q36:∀ (w:World) (a:Option Addr) (n c n' c':Nat),(binOp .eql 22 (.slice a n c) (.slice none n' c')).run Tryz.prog w=.ok (.bool a.isNone) w:=λw a n c n' c'=>Lib.run_eql_slice_nil w _ _ a n c n' c' Tryz.underlying22
 obtain ⟨i0,hi,hz0,hz1,hz2⟩:=info_parts j4e;cases a with
 | none =>
  obtain ⟨h0,rfl⟩:=hn rfl;obtain rfl:l=[]:=List.length_eq_zero_iff.1 h0
  go_enter Tryz.func137,Tryz.ntmps137
  go_wp2
  go_ret
  exact ⟨none,0,rfl,World.ownsRow_nil _ _ _ _,Kept.refl _ _⟩
 | some ad =>
  go_enter Tryz.func137,Tryz.ntmps137
  go_wp2_with (at_builtin;refine xh _ rfl _ _ _ rfl w.heap.size 5 i0 _ 1 Tryz.underlying22 hi hz0 hz1 hz2 rfl _ _ _ rfl (j7c w _ _ (Nat.le_refl _)) (some ad) l.length c (B8 l) rfl (by simp) ?c0 (by simp) (jAw _) ?c1 ?c2 ?c3 ?_;rotate_right;intro v1 w1 hown1 hg1 hv1)
  case c0=>exact hr.keptNo ((Kept.refl No w).alloc _)
  case c1=>unfold maxLen;omega
  case c2=>omega
  case c3=>simp
  go_ret
  exact (jH7 hown1 (by simp) (by simp) (by intro h;have h9:=hv1.1 h;cases h9.1) (((Kept.refl No w).alloc _).grown hg1 (j12 (j7c w _ 5 (Nat.le_refl _))))).own
theorem j74:(Tryz.prog.info? 112).map (λi=>(i.zero,i.size,i.bytes))=some (some (.agg #[.int .u8 0,.int .u32 0,.string ⟨#[]⟩,.string ⟨#[]⟩]),4,40):=by kernel_rfl
theorem j21:(Tryz.prog.info? 89).map (λi=>(i.zero,i.size,i.bytes))=some (some (.agg #[.int .u8 0,.int .u32 0,.string ⟨#[]⟩,.string ⟨#[]⟩]),4,40):=by kernel_rfl
def OwnP (e:TypeId) (w:World) (L:List Pr) (ed:Ending) (w':World):Prop :=
 ∃ a c,ed=.returned (.slice a L.length c)∧w'.ownsRow w.heap.size e 4 (.slice a L.length c) L.length (PC L)∧Kept No w w'
theorem j2t {e:TypeId} {w w':World} {v:Value} {L:List Pr} {n:Nat} {xs:List Value} (h:w'.ownsRow w.heap.size e 4 v n xs) (hn:n=L.length) (hx:xs=PC L) (hk:Kept No w w'):OwnP e w L (.returned v) w':=by
 subst hn hx;rcases h.2 with ⟨hv,h0⟩|⟨g,cap,cur,hv,_⟩
 ·subst hv
  exact ⟨none,0,by rw[h0],by rw[h0]at h ⊢;exact h,hk⟩
 ·subst hv
  exact ⟨_,_,rfl,h,hk⟩
theorem OwnP.from {t:TypeId} {w0 w w':World} {L:List Pr} {e:Ending} (h:OwnP t w L e w') (hk:Kept No w0 w):OwnP t w0 L e w':=by
 obtain ⟨a,c,h1,h3,h4⟩:=h;exact ⟨a,c,h1,j5r h3 hk.size,hk.trans h4⟩
theorem j8y {L:List Pr} {j:Nat} (h:j<L.length):L.take (j+1)=L.take j++[L[j]]:=List.take_succ_eq_append_getElem h
theorem j1t (L:List Pr) (p:Pr):(PC [p]).length=1*4:=by rw[vL];rfl
theorem j5m {w:World} {t:TypeId} {p:Pr}:∀ j u,(PC [p])[j]?=some u→(w.alloc (.cells #[.int .u8 p.id,.int .u32 p.n,.string p.a,.string p.b] t)).cell? ((⟨w.heap.size,0,none⟩:Addr).add j)=some u:=by
 have h:PC [p]=[.int .u8 p.id,.int .u32 p.n,.string p.a,.string p.b]:=by rw[jAx];rfl
 rw[h];exact jMt rfl
theorem qD (a:Option Addr) (c:Nat) (L:List Pr) (w:World) (hr:Row w a (PC L)) (hl:L.length≤100000) :
  Calls Tryz.prog 30 #[.slice a L.length c] w (OwnP 89 w L):=by
 obtain ⟨i0,hi,hz0,hz1,hz2⟩:=info_parts j21
 go_enter Tryz.func30,Tryz.ntmps30
 go_wp2
 go_loopw [3,4] (λs i wr=>∃ j:Nat,i=.int .i64 j∧j≤L.length∧wr.ownsRow w.heap.size 89 4 s j (PC (L.take j))∧Kept No w wr) (λ_ i _=>L.length - (intOf i).toNat)
 case atStart=>exact ⟨0,rfl,by omega,World.ownsRow_nil _ _ _ _,Kept.refl _ _⟩
 case round =>
  obtain ⟨j,rfl,hj,hown,hk⟩:=hrel;have hsz:=hk.size
  by_cases hlt:j<L.length
  ·obtain ⟨b,off,rfl,hb,q0,q1,q2,q3⟩:=(hr.keptNo hk).prop hlt
   have HT:=Lib.hid (j8y hlt);generalize L[j]=p at *;obtain ⟨id,n,A,B⟩:=p;dsimp only at q0 q1 q2 q3
   go_wp2_with (first
    | (go_at_call 62;refine (jGx id n A B _).mono ?_;rintro e w2 ⟨rfl,hk2⟩;have hown1:=xo hown hk2)
    | (at_builtin;refine wpList_append_own _ rfl _ _ _ rfl w.heap.size 89 i0 _ 4 40 Tryz.underlying31 hi hz0 hz1 hz2 rfl (by decide) _ _ _ rfl (hown1.alloc _) ⟨w2.heap.size,0,none⟩ 1 1 (PC [⟨id,n,A,B⟩]) rfl ?c0 ?c1 (xv _) ?c2 ?c3 ?c4 ?_;rotate_right;intro v3 w3 hown3 hg3 _))
   case c0=>exact j1t [] _
   case c1=>exact j5m (p:=⟨id,n,A,B⟩)
   case c2=>unfold maxLen;omega
   case c3=>omega
   case c4=>have:=hk2.size;simp;omega
   go_roundw
   case rel=>exact ⟨j+1,by go_num,by omega,by rw[HT.out,zp];exact hown3,((hk.trans hk2).alloc _).grown hg3 (j12 hown1)⟩
   case measure=>simp[intOf];omega
  ·have hje:j=L.length:=by omega
   have HF:=Lib.hid (List.take_of_length_le (l:=L) (i:=j) (by omega))
   go_wp2
   go_ret
   exact j2t hown hje (by rw[HF.out]) hk
theorem j5t (a:Option Addr) (c:Nat) (L:List Pr) (w:World) (hr:Row w a (PC L)) (hn:a=none→L.length=0∧c=0) (hl:L.length≤100000) :
  Calls Tryz.prog 140 #[.slice a L.length c] w (OwnP 112 w L):=by
 have q36:∀ (w:World) (a:Option Addr) (n c n' c':Nat),(binOp .eql 24 (.slice a n c) (.slice none n' c')).run Tryz.prog w=.ok (.bool a.isNone) w:=λw a n c n' c'=>Lib.run_eql_slice_nil w _ _ a n c n' c' Tryz.underlying24
 obtain ⟨i0,hi,hz0,hz1,hz2⟩:=info_parts j74;cases a with
 | none =>
  obtain ⟨h0,rfl⟩:=hn rfl;obtain rfl:L=[]:=List.length_eq_zero_iff.1 h0
  go_enter Tryz.func140,Tryz.ntmps140
  go_wp2
  go_ret
  exact ⟨none,0,rfl,World.ownsRow_nil _ _ _ _,Kept.refl _ _⟩
 | some ad =>
  go_enter Tryz.func140,Tryz.ntmps140
  go_wp2_with (at_builtin;refine wpList_append_own _ rfl _ _ _ rfl w.heap.size 112 i0 _ 4 40 Tryz.underlying24 hi hz0 hz1 hz2 rfl (by decide) _ _ _ rfl (vh w _ _ 4 (Nat.le_refl _)) ad L.length c (PC L) rfl (vL L) ?c0 (xv _) ?c1 ?c2 ?c3 ?_;rotate_right;intro v1 w1 hown1 hg1 hv1)
  case c0=>exact (hr.keptNo ((Kept.refl No w).alloc _)).at_add ad rfl
  case c1=>unfold maxLen;omega
  case c2=>omega
  case c3=>simp
  go_ret
  exact j2t hown1 (by simp) (by simp) (((Kept.refl No w).alloc _).grown hg1 (j12 (vh w _ 112 4 (Nat.le_refl _))))
theorem toList_inj (a b:ByteArray):a.toList=b.toList↔a=b:=by
 rw[Lib.toList_data,Lib.toList_data];exact ⟨λh=>ByteArray.ext (Array.toList_inj.1 h),λh=>by rw[h]⟩
theorem jLg (i1 n1 i2 n2:Nat) (a1 b1 a2 b2:ByteArray) (w:World):Sem.run Tryz.prog (binOp .neq 112 (.agg #[.int .u8 i1,.int .u32 n1,.string a1,.string b1]) (.agg #[.int .u8 i2,.int .u32 n2,.string a2,.string b2])) w=.ok (.bool (!decide ((⟨i1,n1,a1,b1⟩:Pr)=⟨i2,n2,a2,b2⟩))) w:=by
 have hS:Tryz.prog.underlying 112=some (.struct (Tryz.prog.fieldsOf 112)):=by kernel_rfl
 have hp:Tryz.prog.stoodInHeld 112=false:=by kernel_rfl
 rw[run_neq_struct,show (10000:Nat)=9999+1 from rfl,run_equalIn_agg w 9999 112 _ _ hS hp];simp only[Program.fieldsOf,Tryz.underlying112];have u0:=Tryz.underlying5;have u1:=Tryz.underlying87;have u2:=Tryz.underlying9
 go_simp
 by_cases h1:i1=i2<;>by_cases h2:n1=n2<;>by_cases h3:a1=a2<;>by_cases h4:b1=b2<;>simp[h1,h2,h3,h4,toList_inj,Int.natCast_inj]
theorem jLh (i1 n1 i2 n2:Nat) (a1 b1 a2 b2:ByteArray) (w:World):Sem.run Tryz.prog (binOp .neq 89 (.agg #[.int .u8 i1,.int .u32 n1,.string a1,.string b1]) (.agg #[.int .u8 i2,.int .u32 n2,.string a2,.string b2])) w=.ok (.bool (!decide ((⟨i1,n1,a1,b1⟩:Pr)=⟨i2,n2,a2,b2⟩))) w:=by
 have hS:Tryz.prog.underlying 89=some (.struct (Tryz.prog.fieldsOf 89)):=by kernel_rfl
 have hp:Tryz.prog.stoodInHeld 89=false:=by kernel_rfl
 rw[run_neq_struct,show (10000:Nat)=9999+1 from rfl,run_equalIn_agg w 9999 89 _ _ hS hp];simp only[Program.fieldsOf,Tryz.underlying89];have u0:=Tryz.underlying5;have u1:=Tryz.underlying87;have u2:=Tryz.underlying9
 go_simp
 by_cases h1:i1=i2<;>by_cases h2:n1=n2<;>by_cases h3:a1=a2<;>by_cases h4:b1=b2<;>simp[h1,h2,h3,h4,toList_inj,Int.natCast_inj]
theorem j7q {L M:List Pr} {j:Nat} (h:L.take j=M.take j) (h1:j<L.length) (h2:j<M.length) (he:L[j]=M[j]):L.take (j+1)=M.take (j+1):=by rw[j8y h1,j8y h2,h,he]
theorem jLe {L M:List Pr} {j:Nat} (h1:j<L.length) (h2:j<M.length) (he:L[j]≠M[j]):decide (L=M)=false:=by
 refine decide_eq_false λe=>he ?_
 subst e
 rfl
theorem j7i (a:Option Addr) (c:Nat) (L:List Pr) (a9:Option Addr) (c9:Nat) (M:List Pr) (w:World) (hr:Row w a (PC L)) (hr9:Row w a9 (PC M)) (hl:L.length≤100000) (hl9:M.length≤100000) :
  Calls Tryz.prog 29 #[.slice a L.length c,.slice a9 M.length c9] w λe w'=>e=.returned (.bool (decide (L=M)))∧Kept No w w':=by
 by_cases hlen:L.length=M.length
 ·have HL:=Lib.hid hlen
  have hne:((L.length:Int) != (M.length:Int))=false:=by simp;omega
  clear hlen
  go_enter Tryz.func29,Tryz.ntmps29
  go_wp2
  go_loopw [5] (λi wr=>∃ j:Nat,i=.int .i64 j∧j≤L.length∧Hid (L.take j=M.take j)∧Kept No w wr) (λi _=>L.length - (intOf i).toNat)
  case atStart=>exact ⟨0,rfl,by omega,Lib.hid rfl,Kept.refl _ _⟩
  case round =>
   obtain ⟨j,rfl,hj,HT,hk⟩:=hrel
   by_cases hlt:j<L.length
   ·have hlt9:j<M.length:=by rw[← HL.out];exact hlt
    obtain ⟨b,off,rfl,hb,q0,q1,q2,q3⟩:=(hr.keptNo hk).prop hlt;obtain ⟨b9,of9,rfl,hb9,r0,r1,r2,r3⟩:=(hr9.keptNo hk).prop hlt9;have HS:=Lib.hid (j7q HT.out hlt hlt9);have HN:=Lib.hid (jLe (L:=L) (M:=M) hlt hlt9);generalize L[j]=p at *;generalize M[j]=q at *;obtain ⟨i1,n1,a1,b1⟩:=p;obtain ⟨i2,n2,a2,b2⟩:=q;dsimp only at q0 q1 q2 q3 r0 r1 r2 r3
    by_cases he:(⟨i1,n1,a1,b1⟩:Pr)=⟨i2,n2,a2,b2⟩
    ·have HS2:=Lib.hid (HS.out he)
     have hq:∀ wx,Sem.run Tryz.prog (binOp .neq 89 (.agg #[.int .u8 i1,.int .u32 n1,.string a1,.string b1]) (.agg #[.int .u8 i2,.int .u32 n2,.string a2,.string b2])) wx=.ok (.bool false) wx:=λwx=>by rw[jLh,decide_eq_true he];rfl
     clear he HS HN
     go_wp2
     refine wp_region_held_drew (S:=(λwx=>(wx.cell? ⟨b,off+j*4,none⟩=some (.int .u8 i1)∧wx.cell? ⟨b,off+j*4+1,none⟩=some (.int .u32 n1)∧wx.cell? ⟨b,off+j*4+2,none⟩=some (.string a1)∧wx.cell? ⟨b,off+j*4+3,none⟩=some (.string b1))∧(wx.cell? ⟨b9,of9+j*4,none⟩=some (.int .u8 i2)∧wx.cell? ⟨b9,of9+j*4+1,none⟩=some (.int .u32 n2)∧wx.cell? ⟨b9,of9+j*4+2,none⟩=some (.string a2)∧wx.cell? ⟨b9,of9+j*4+3,none⟩=some (.string b2)))) (by kernel_rfl) ?_ (λhHeld=>?_)
     ·exact ⟨⟨q0,q1,q2,q3⟩,⟨r0,r1,r2,r3⟩⟩
     refine wtv (i:=0) (v:=?_) rfl (λwz9 hSw=>?_) ?_;rotate_left;(·(try dsimp only at hSw);go_simp;try with_reducible rfl);go_simp
     refine wtv (i:=1) (v:=?_) rfl (λwz9 hSw=>?_) ?_;rotate_left;(·(try dsimp only at hSw);go_simp;try with_reducible rfl);go_simp
     refine wtv (i:=2) (v:=?_) rfl (λwz9 hSw=>?_) ?_;rotate_left;(·(try dsimp only at hSw);go_simp;try with_reducible rfl);go_simp
     refine wtv (i:=3) (v:=(.agg #[.int .u8 i1,.int .u32 n1,.string a1,.string b1])) rfl (λwz9 hSw=>?_) ?_;(·(try dsimp only at hSw);go_simp;try with_reducible rfl);go_simp
     refine wtv (i:=4) (v:=?_) rfl (λwz9 hSw=>?_) ?_;rotate_left;(·(try dsimp only at hSw);go_simp;try with_reducible rfl);go_simp
     refine wtv (i:=5) (v:=?_) rfl (λwz9 hSw=>?_) ?_;rotate_left;(·(try dsimp only at hSw);go_simp;try with_reducible rfl);go_simp
     refine wtv (i:=6) (v:=?_) rfl (λwz9 hSw=>?_) ?_;rotate_left;(·(try dsimp only at hSw);go_simp;try with_reducible rfl);go_simp
     refine wtv (i:=7) (v:=(.agg #[.int .u8 i2,.int .u32 n2,.string a2,.string b2])) rfl (λwz9 hSw=>?_) ?_;(·(try dsimp only at hSw);go_simp;try with_reducible rfl);go_simp
     refine wtv (i:=8) (v:=(.bool false)) rfl (λwz9 hSw=>?_) ?_;(·(try dsimp only at hSw);go_simp;try with_reducible rfl);go_simp
     refine wpAnyH_done (by kernel_rfl) ?_ _
     go_wp2
     go_roundw
     case rel=>exact ⟨j+1,by go_num,by omega,HS2,hk.drew⟩
     case measure=>simp[intOf];omega
    ·have HN2:=Lib.hid (HN.out he)
     have hq:∀ wx,Sem.run Tryz.prog (binOp .neq 89 (.agg #[.int .u8 i1,.int .u32 n1,.string a1,.string b1]) (.agg #[.int .u8 i2,.int .u32 n2,.string a2,.string b2])) wx=.ok (.bool true) wx:=λwx=>by rw[jLh,decide_eq_false he];rfl
     clear he HS HN
     go_wp2
     refine wp_region_held_drew (S:=(λwx=>(wx.cell? ⟨b,off+j*4,none⟩=some (.int .u8 i1)∧wx.cell? ⟨b,off+j*4+1,none⟩=some (.int .u32 n1)∧wx.cell? ⟨b,off+j*4+2,none⟩=some (.string a1)∧wx.cell? ⟨b,off+j*4+3,none⟩=some (.string b1))∧(wx.cell? ⟨b9,of9+j*4,none⟩=some (.int .u8 i2)∧wx.cell? ⟨b9,of9+j*4+1,none⟩=some (.int .u32 n2)∧wx.cell? ⟨b9,of9+j*4+2,none⟩=some (.string a2)∧wx.cell? ⟨b9,of9+j*4+3,none⟩=some (.string b2)))) (by kernel_rfl) ?_ (λhHeld=>?_)
     ·exact ⟨⟨q0,q1,q2,q3⟩,⟨r0,r1,r2,r3⟩⟩
     refine wtv (i:=0) (v:=?_) rfl (λwz9 hSw=>?_) ?_;rotate_left;(·(try dsimp only at hSw);go_simp;try with_reducible rfl);go_simp
     refine wtv (i:=1) (v:=?_) rfl (λwz9 hSw=>?_) ?_;rotate_left;(·(try dsimp only at hSw);go_simp;try with_reducible rfl);go_simp
     refine wtv (i:=2) (v:=?_) rfl (λwz9 hSw=>?_) ?_;rotate_left;(·(try dsimp only at hSw);go_simp;try with_reducible rfl);go_simp
     refine wtv (i:=3) (v:=(.agg #[.int .u8 i1,.int .u32 n1,.string a1,.string b1])) rfl (λwz9 hSw=>?_) ?_;(·(try dsimp only at hSw);go_simp;try with_reducible rfl);go_simp
     refine wtv (i:=4) (v:=?_) rfl (λwz9 hSw=>?_) ?_;rotate_left;(·(try dsimp only at hSw);go_simp;try with_reducible rfl);go_simp
     refine wtv (i:=5) (v:=?_) rfl (λwz9 hSw=>?_) ?_;rotate_left;(·(try dsimp only at hSw);go_simp;try with_reducible rfl);go_simp
     refine wtv (i:=6) (v:=?_) rfl (λwz9 hSw=>?_) ?_;rotate_left;(·(try dsimp only at hSw);go_simp;try with_reducible rfl);go_simp
     refine wtv (i:=7) (v:=(.agg #[.int .u8 i2,.int .u32 n2,.string a2,.string b2])) rfl (λwz9 hSw=>?_) ?_;(·(try dsimp only at hSw);go_simp;try with_reducible rfl);go_simp
     refine wtv (i:=8) (v:=(.bool true)) rfl (λwz9 hSw=>?_) ?_;(·(try dsimp only at hSw);go_simp;try with_reducible rfl);go_simp
     refine wpAnyH_done (by kernel_rfl) ?_ _
     go_wp2
     go_ret
     exact ⟨by rw[HN2.out];rfl,hk.drew⟩
   ·have HE:Hid (decide (L=M)=true):=Lib.hid (by
     have:=HT.out
     have h9:=HL.out;rw[List.take_of_length_le (by omega),List.take_of_length_le (by omega)]at this;exact decide_eq_true this)
    go_wp2
    go_ret
    exact ⟨by rw[HE.out];rfl,hk⟩
 ·have hne:((L.length:Int) != (M.length:Int))=true:=by simp;omega
  have HE:Hid (decide (L=M)=false):=Lib.hid (decide_eq_false λe=>hlen (by rw[e]));generalize decide (L=M)=DD at *;clear hlen
  go_enter Tryz.func29,Tryz.ntmps29
  go_wp2
  go_ret
  exact ⟨by rw[HE.out];rfl,Kept.refl _ _⟩
theorem jBm (a:Option Addr) (c:Nat) (L:List Pr) (a9:Option Addr) (c9:Nat) (M:List Pr) (w:World) (hr:Row w a (PC L)) (hr9:Row w a9 (PC M)) (hl:L.length≤100000) (hl9:M.length≤100000) :
  Calls Tryz.prog 100 #[.slice a L.length c,.slice a9 M.length c9] w λe w'=>e=.returned (.bool (decide (L=M)))∧Kept No w w':=by
 by_cases hlen:L.length=M.length
 ·have HL:=Lib.hid hlen
  have hne:((L.length:Int) != (M.length:Int))=false:=by simp;omega
  clear hlen
  go_enter Tryz.func100,Tryz.ntmps100
  go_wp2
  go_loopw [13] (λi wr=>∃ j:Nat,i=.int .i64 j∧j≤L.length∧Hid (L.take j=M.take j)∧Kept No w wr) (λi _=>L.length - (intOf i).toNat)
  case atStart=>exact ⟨0,rfl,by omega,Lib.hid rfl,Kept.refl _ _⟩
  case round =>
   obtain ⟨j,rfl,hj,HT,hk⟩:=hrel
   by_cases hlt:j<L.length
   ·have hlt9:j<M.length:=by rw[← HL.out];exact hlt
    obtain ⟨b,off,rfl,hb,q0,q1,q2,q3⟩:=(hr.keptNo hk).prop hlt;obtain ⟨b9,of9,rfl,hb9,r0,r1,r2,r3⟩:=(hr9.keptNo hk).prop hlt9;have HS:=Lib.hid (j7q HT.out hlt hlt9);have HN:=Lib.hid (jLe (L:=L) (M:=M) hlt hlt9);generalize L[j]=p at *;generalize M[j]=q at *;obtain ⟨i1,n1,a1,b1⟩:=p;obtain ⟨i2,n2,a2,b2⟩:=q;dsimp only at q0 q1 q2 q3 r0 r1 r2 r3
    by_cases he:(⟨i1,n1,a1,b1⟩:Pr)=⟨i2,n2,a2,b2⟩
    ·have HS2:=Lib.hid (HS.out he)
     have hq:∀ wx,Sem.run Tryz.prog (binOp .neq 112 (.agg #[.int .u8 i1,.int .u32 n1,.string a1,.string b1]) (.agg #[.int .u8 i2,.int .u32 n2,.string a2,.string b2])) wx=.ok (.bool false) wx:=λwx=>by rw[jLg,decide_eq_true he];rfl
     clear he HS HN
     go_wp2
     refine wp_region_held_drew (S:=(λwx=>(wx.cell? ⟨b,off+j*4,none⟩=some (.int .u8 i1)∧wx.cell? ⟨b,off+j*4+1,none⟩=some (.int .u32 n1)∧wx.cell? ⟨b,off+j*4+2,none⟩=some (.string a1)∧wx.cell? ⟨b,off+j*4+3,none⟩=some (.string b1))∧(wx.cell? ⟨b9,of9+j*4,none⟩=some (.int .u8 i2)∧wx.cell? ⟨b9,of9+j*4+1,none⟩=some (.int .u32 n2)∧wx.cell? ⟨b9,of9+j*4+2,none⟩=some (.string a2)∧wx.cell? ⟨b9,of9+j*4+3,none⟩=some (.string b2)))) (by kernel_rfl) ?_ (λhHeld=>?_)
     ·exact ⟨⟨q0,q1,q2,q3⟩,⟨r0,r1,r2,r3⟩⟩
     refine wtv (i:=0) (v:=?_) rfl (λwz9 hSw=>?_) ?_;rotate_left;(·(try dsimp only at hSw);go_simp;try with_reducible rfl);go_simp
     refine wtv (i:=1) (v:=?_) rfl (λwz9 hSw=>?_) ?_;rotate_left;(·(try dsimp only at hSw);go_simp;try with_reducible rfl);go_simp
     refine wtv (i:=2) (v:=?_) rfl (λwz9 hSw=>?_) ?_;rotate_left;(·(try dsimp only at hSw);go_simp;try with_reducible rfl);go_simp
     refine wtv (i:=3) (v:=(.agg #[.int .u8 i1,.int .u32 n1,.string a1,.string b1])) rfl (λwz9 hSw=>?_) ?_;(·(try dsimp only at hSw);go_simp;try with_reducible rfl);go_simp
     refine wtv (i:=4) (v:=?_) rfl (λwz9 hSw=>?_) ?_;rotate_left;(·(try dsimp only at hSw);go_simp;try with_reducible rfl);go_simp
     refine wtv (i:=5) (v:=?_) rfl (λwz9 hSw=>?_) ?_;rotate_left;(·(try dsimp only at hSw);go_simp;try with_reducible rfl);go_simp
     refine wtv (i:=6) (v:=?_) rfl (λwz9 hSw=>?_) ?_;rotate_left;(·(try dsimp only at hSw);go_simp;try with_reducible rfl);go_simp
     refine wtv (i:=7) (v:=(.agg #[.int .u8 i2,.int .u32 n2,.string a2,.string b2])) rfl (λwz9 hSw=>?_) ?_;(·(try dsimp only at hSw);go_simp;try with_reducible rfl);go_simp
     refine wtv (i:=8) (v:=(.bool false)) rfl (λwz9 hSw=>?_) ?_;(·(try dsimp only at hSw);go_simp;try with_reducible rfl);go_simp
     refine wpAnyH_done (by kernel_rfl) ?_ _
     go_wp2
     go_roundw
     case rel=>exact ⟨j+1,by go_num,by omega,HS2,hk.drew⟩
     case measure=>simp[intOf];omega
    ·have HN2:=Lib.hid (HN.out he)
     have hq:∀ wx,Sem.run Tryz.prog (binOp .neq 112 (.agg #[.int .u8 i1,.int .u32 n1,.string a1,.string b1]) (.agg #[.int .u8 i2,.int .u32 n2,.string a2,.string b2])) wx=.ok (.bool true) wx:=λwx=>by rw[jLg,decide_eq_false he];rfl
     clear he HS HN
     go_wp2
     refine wp_region_held_drew (S:=(λwx=>(wx.cell? ⟨b,off+j*4,none⟩=some (.int .u8 i1)∧wx.cell? ⟨b,off+j*4+1,none⟩=some (.int .u32 n1)∧wx.cell? ⟨b,off+j*4+2,none⟩=some (.string a1)∧wx.cell? ⟨b,off+j*4+3,none⟩=some (.string b1))∧(wx.cell? ⟨b9,of9+j*4,none⟩=some (.int .u8 i2)∧wx.cell? ⟨b9,of9+j*4+1,none⟩=some (.int .u32 n2)∧wx.cell? ⟨b9,of9+j*4+2,none⟩=some (.string a2)∧wx.cell? ⟨b9,of9+j*4+3,none⟩=some (.string b2)))) (by kernel_rfl) ?_ (λhHeld=>?_)
     ·exact ⟨⟨q0,q1,q2,q3⟩,⟨r0,r1,r2,r3⟩⟩
     refine wtv (i:=0) (v:=?_) rfl (λwz9 hSw=>?_) ?_;rotate_left;(·(try dsimp only at hSw);go_simp;try with_reducible rfl);go_simp
     refine wtv (i:=1) (v:=?_) rfl (λwz9 hSw=>?_) ?_;rotate_left;(·(try dsimp only at hSw);go_simp;try with_reducible rfl);go_simp
     refine wtv (i:=2) (v:=?_) rfl (λwz9 hSw=>?_) ?_;rotate_left;(·(try dsimp only at hSw);go_simp;try with_reducible rfl);go_simp
     refine wtv (i:=3) (v:=(.agg #[.int .u8 i1,.int .u32 n1,.string a1,.string b1])) rfl (λwz9 hSw=>?_) ?_;(·(try dsimp only at hSw);go_simp;try with_reducible rfl);go_simp
     refine wtv (i:=4) (v:=?_) rfl (λwz9 hSw=>?_) ?_;rotate_left;(·(try dsimp only at hSw);go_simp;try with_reducible rfl);go_simp
     refine wtv (i:=5) (v:=?_) rfl (λwz9 hSw=>?_) ?_;rotate_left;(·(try dsimp only at hSw);go_simp;try with_reducible rfl);go_simp
     refine wtv (i:=6) (v:=?_) rfl (λwz9 hSw=>?_) ?_;rotate_left;(·(try dsimp only at hSw);go_simp;try with_reducible rfl);go_simp
     refine wtv (i:=7) (v:=(.agg #[.int .u8 i2,.int .u32 n2,.string a2,.string b2])) rfl (λwz9 hSw=>?_) ?_;(·(try dsimp only at hSw);go_simp;try with_reducible rfl);go_simp
     refine wtv (i:=8) (v:=(.bool true)) rfl (λwz9 hSw=>?_) ?_;(·(try dsimp only at hSw);go_simp;try with_reducible rfl);go_simp
     refine wpAnyH_done (by kernel_rfl) ?_ _
     go_wp2
     go_ret
     exact ⟨by rw[HN2.out];rfl,hk.drew⟩
   ·have HE:Hid (decide (L=M)=true):=Lib.hid (by
     have:=HT.out
     have h9:=HL.out;rw[List.take_of_length_le (by omega),List.take_of_length_le (by omega)]at this;exact decide_eq_true this)
    go_wp2
    go_ret
    exact ⟨by rw[HE.out];rfl,hk⟩
 ·have hne:((L.length:Int) != (M.length:Int))=true:=by simp;omega
  have HE:Hid (decide (L=M)=false):=Lib.hid (decide_eq_false λe=>hlen (by rw[e]));generalize decide (L=M)=DD at *;clear hlen
  go_enter Tryz.func100,Tryz.ntmps100
  go_wp2
  go_ret
  exact ⟨by rw[HE.out];rfl,Kept.refl _ _⟩
theorem j7e (a:Option Addr) (c:Nat) (L:List Pr) (a9:Option Addr) (c9:Nat) (M:List Pr) (w:World) (hr:Row w a (PC L)) (hr9:Row w a9 (PC M)) (hl:L.length≤100000) (hl9:M.length≤100000) :
  Calls Tryz.prog 66 #[.slice a L.length c,.slice a9 M.length c9] w λe w'=>e=.returned (.bool (decide (L=M)))∧Kept No w w':=by
 have HE:=Lib.hid (λwx h1 h2=>jBm a c L a9 c9 M wx h1 h2 hl hl9);generalize decide (L=M)=DD at *
 go_enter Tryz.func66,Tryz.ntmps66
 go_wp2_with (go_at_call 100;refine (HE.out _ hr hr9).mono ?_;rintro e w1 ⟨rfl,hk⟩)
 go_ret
 exact ⟨rfl,hk⟩
def Pr.ok (p:Pr):Bool:=xG p.id p.n p.a p.b
structure Pr.wf' (p:Pr):Prop where
 hid:p.id<256
 hn:p.n<4294967296
 ha:p.a.size≤9223372036854
 hb:p.b.size≤9223372036854
theorem xu {a:ByteArray} (h:a.toList.isEmpty=true):a.size=0:=by
 rw[Lib.toList_data]at h
 have:a.data.toList=[]:=by simpa using h
 rw[← qY,this];rfl
theorem j1j {n m:Nat} {a b:ByteArray} (h:j1o n m a b=true):n≤m∧a.size=0∧b.size=0:=by
 unfold j1o xZ at h;rw[aE9,aE9]at h;exact ⟨of_decide_eq_true h.1,xu h.2.1,xu h.2.2⟩
theorem jD0 {id n:Nat} {a b:ByteArray} (h8:id<256) (hn:n<4294967296) (h:xG id n a b=true):jIe id n a b∧(qh id=4→n≤268435455):=by
 have ht:=zD id
 have key:1≤qh id∧a.size≤65535∧b.size≤65535∧(qh id=4→n≤268435455):=by
  unfold xG at h;generalize qh id=t at *;rcases (show t=0∨t=1∨t=2∨t=3∨t=4∨t=5∨t=6∨t=7 from by omega) with rfl|rfl|rfl|rfl|rfl|rfl|rfl|rfl
  ·exact absurd h (by simp[qF])
  ·have:=j1j (m:=255) h;omega
  ·have:=j1j (m:=65535) h;omega
  ·have:=j1j (m:=4294967295) h;omega
  ·have:=j1j (m:=268435455) h;omega
  ·have h':(decide (n=0)&&(jm a&&b.toList.isEmpty))=true:=h
   rw[aE9,aE9]at h';have h1:=vg h'.2.1;have h2:=xu h'.2.2;omega
  ·have h':(decide (n=0)&&(decide (a.size≤65535)&&b.toList.isEmpty))=true:=h
   rw[aE9,aE9]at h';have h1:=of_decide_eq_true h'.2.1;have h2:=xu h'.2.2;omega
  ·have h':(decide (n=0)&&(jm a&&jm b))=true:=h
   rw[aE9,aE9]at h';have h1:=vg h'.2.1;have h2:=vg h'.2.2;omega
 exact ⟨⟨h8,hn,key.2.1,key.2.2.1,key.1⟩,key.2.2.2⟩
theorem jI8 {n:Nat} (h:n≤268435455):1≤(j1g n).length:=by
 unfold j1g;rw[if_pos h,j6q]
 split<;>simp
theorem jN8 {id n:Nat} {a b:ByteArray} (h:jIe id n a b) (h4:qh id=4→n≤268435455):2≤szP id n a b∧szP id n a b≤131075:=by
 have h1:=h.ha;have h2:=h.hb;have h3:=h.ht;have h5:=zD id;have h6:=j4p n;have h7:=λe=>jI8 (h4 e)
 unfold szP;generalize qh id=t at *;rcases (show t=1∨t=2∨t=3∨t=4∨t=5∨t=6∨t=7 from by omega) with rfl|rfl|rfl|rfl|rfl|rfl|rfl
 all_goals simp only[Nat.reduceEqDiff,if_true,if_false]
 all_goals first|omega|(have:=h7 rfl;omega)
theorem jA2 {id n:Nat} {a b:ByteArray} (h:jIe id n a b):(jH6 id n a b).length=szP id n a b:=by
 have h3:=h.ht;have h5:=zD id;unfold szP jH6;generalize qh id=t at *;rcases (show t=1∨t=2∨t=3∨t=4∨t=5∨t=6∨t=7 from by omega) with rfl|rfl|rfl|rfl|rfl|rfl|rfl
 all_goals simp only[Nat.reduceEqDiff,if_true,if_false,j92,jB1,j93,jB2,jB0,List.length_cons,List.length_nil]
 all_goals omega
def xJ:List Pr→Nat→Option Nat
 | [],n=>some n
 | p :: t,n=>if p.ok then (if n+p.size≤268435455 then xJ t (n+p.size) else none) else none
def jNb (r:Option Nat) (w:World) (e:Ending) (w':World):Prop :=
 (e=match r with|some n=>.returned (.tuple #[.int .i64 (n:Nat),.bool true])|none=>.returned (.tuple #[.int .i64 0,.bool false]))∧Kept No w w'
theorem j2d {L:List Pr} {j:Nat} (h:j<L.length):L.drop j=L[j] :: L.drop (j+1):=List.drop_eq_getElem_cons h
theorem jBe (a:Option Addr) (c:Nat) (L:List Pr) (w:World) (hr:Row w a (PC L)) (hl:L.length≤100000) (hw:∀ p∈L,p.wf') (hT:Tabs w) :
  Calls Tryz.prog 132 #[.slice a L.length c] w (jNb (xJ L 0) w):=by
 have HW:=Lib.hid hw;generalize hR:xJ L 0=R;have HR:=Lib.hid hR;clear hw hR
 go_enter Tryz.func132,Tryz.ntmps132
 go_wp2
 go_loopw [4,9] (λs i wr=>∃ j n:Nat,i=.int .i64 j∧s=.int .i64 n∧n≤268435455∧j≤L.length∧Hid (xJ (L.drop j) n=R)∧Kept No w wr) (λ_ i _=>L.length - (intOf i).toNat)
 case atStart=>exact ⟨0,0,rfl,rfl,by omega,by omega,Lib.hid (by rw[List.drop_zero];exact HR.out),Kept.refl _ _⟩
 case round =>
  obtain ⟨j,n,rfl,rfl,hn,hj,HG,hk⟩:=hrel
  by_cases hlt:j<L.length
  ·obtain ⟨b,off,rfl,hb,q0,q1,q2,q3⟩:=(hr.keptNo hk).prop hlt
   have HD:=Lib.hid (j2d hlt);have hp:=HW.out _ (List.getElem_mem hlt);generalize L[j]=p at *;obtain ⟨id,pn,A,B⟩:=p;obtain ⟨p1,p2,p3,p4⟩:=hp;dsimp only at q0 q1 q2 q3 p1 p2 p3 p4;have cR:=λwx hT=>j24 id pn A B wx hT p1 p2 (by omega) (by omega)
   have hB0:=Lib.hid (Blk.new wr 112 #[.int .u8 id,.int .u32 pn,.string A,.string B]);have hTr:=Lib.hid ((hT.kept hk).kept ((Kept.refl No wr).alloc (.cells #[.int .u8 id,.int .u32 pn,.string A,.string B] 112)));rcases hok:xG id pn A B with _|_
   ·rw[hok]at cR
    have HC:=Lib.hid cR;have HE:Hid (R=none):=Lib.hid (by rw[← HG.out,HD.out,xJ];simp[Pr.ok,hok]);clear cR hok
    go_wp2_with (go_at_call 121;refine (HC.out _ hTr.out).mono ?_;rintro e w2 ⟨rfl,hk2⟩)
    go_ret2
    exact ⟨by rw[HE.out];rfl,(hk.alloc _).trans hk2⟩
   ·rw[hok]at cR
    have HC:=Lib.hid cR;obtain ⟨hf,hf4⟩:=jD0 p1 p2 hok;have hsz:=jN8 hf hf4;have cS:=λwx=>jHv id pn A B wx p2 p3 p4
    have HG2:Hid ((if n+szP id pn A B≤268435455 then xJ (L.drop (j+1)) (n+szP id pn A B) else none)=R):=Lib.hid (by rw[← HG.out,HD.out,xJ];simp only[Pr.ok,Pr.size,hok];rfl);generalize szP id pn A B=z at *;have HS:=Lib.hid cS;clear cR cS hok hf hf4
    by_cases hbig:n+z≤268435455
    ·have hbI:decide ((268435455:Int)<(n:Int)+z)=false:=by simp;omega
     have HG3:Hid (xJ (L.drop (j+1)) (n+z)=R):=Lib.hid (by rw[← HG2.out,if_pos hbig])
     go_wp2_with (first
      | (go_at_call 121;refine (HC.out _ hTr.out).mono ?_;rintro e w2 ⟨rfl,hk2⟩;have s0:=(hB0.out.kept hk2 (λf=>f)).cell 0;have s1:=(hB0.out.kept hk2 (λf=>f)).cell 1;have s2:=(hB0.out.kept hk2 (λf=>f)).cell 2;have s3:=(hB0.out.kept hk2 (λf=>f)).cell 3;simp at s0 s1 s2 s3)
      | (go_at_call 156;refine (HS.out _).mono ?_;rintro e w3 ⟨rfl,hk3⟩))
     go_roundw
     case rel=>exact ⟨j+1,n+z,by go_num,by go_num,hbig,by omega,HG3,((hk.alloc _).trans hk2).trans hk3⟩
     case measure=>simp[intOf];omega
    ·have hbI:(268435455:Int)<(n:Int)+z:=by omega
     have HE:Hid (R=none):=Lib.hid (by rw[← HG2.out,if_neg hbig])
     go_wp2_with (first
      | (go_at_call 121;refine (HC.out _ hTr.out).mono ?_;rintro e w2 ⟨rfl,hk2⟩;have s0:=(hB0.out.kept hk2 (λf=>f)).cell 0;have s1:=(hB0.out.kept hk2 (λf=>f)).cell 1;have s2:=(hB0.out.kept hk2 (λf=>f)).cell 2;have s3:=(hB0.out.kept hk2 (λf=>f)).cell 3;simp at s0 s1 s2 s3)
      | (go_at_call 156;refine (HS.out _).mono ?_;rintro e w3 ⟨rfl,hk3⟩))
     go_ret2
     exact ⟨by rw[HE.out];rfl,((hk.alloc _).trans hk2).trans hk3⟩
  ·have HE:Hid (R=some n):=Lib.hid (by rw[← HG.out,List.drop_of_length_le (by omega)];rfl)
   go_wp2
   go_ret2
   exact ⟨by rw[HE.out];rfl,hk⟩
def vO (L:List Pr):List UInt8:=L.flatMap Pr.lay
theorem Pr.fits {p:Pr} (h:p.wf') (hk:p.ok=true):jIe p.id p.n p.a p.b:=(jD0 h.hid h.hn hk).1
theorem j22:∀ (L:List Pr) (m n:Nat),(∀ p∈L,p.wf')→xJ L m=some n→m≤268435455→(∀ p∈L,p.ok=true)∧m+(vO L).length=n∧n≤268435455
 | [],m,n,_,h,hm=>by
  injection h with h;subst h;exact ⟨by simp,by simp[vO],hm⟩
 | p :: t,m,n,hw,h,hm=>by
  rw[xJ]at h
  split at h
  ·rename_i hk
   split at h
   ·rename_i hb
    obtain ⟨h1,h2,h3⟩:=j22 t _ n (λq hq=>hw q (List.mem_cons_of_mem _ hq)) h hb;have hl:p.lay.length=p.size:=jA2 (Pr.fits (hw p (by simp)) hk);refine ⟨λq hq=>?_,?_,h3⟩
    ·rcases List.mem_cons.1 hq with rfl|hq
     ·exact hk
     ·exact h1 q hq
    ·rw[show vO (p :: t)=p.lay++vO t from rfl,List.length_append,hl];omega
   ·cases h
  ·cases h
def jEm (l:List UInt8) (L:List Pr):List UInt8:=match xJ L 0 with|some n=>j1u l n++vO L|none=>l
def j3w (L:List Pr):Nat:=match xJ L 0 with|some n=>(j1g n).length+n|none=>0
theorem jEk (a9:Option Addr) (c9:Nat) (L:List Pr) (w:World) (hr9:Row w a9 (PC L)) (hl9:L.length≤100000) (hw:∀ p∈L,p.wf') (hT:Tabs w) :
  Calls Tryz.prog 110 #[.slice a9 L.length c9] w λe w'=>e=.returned (.int .i64 (j3w L))∧Kept No w w':=by
 have cL:=jBe a9 c9 L w hr9 hl9 hw hT;unfold j3w;rcases hG:xJ L 0 with _|n
 ·dsimp only
  rw[hG]at cL;have HC:=Lib.hid cL;clear cL hG
  go_enter Tryz.func110,Tryz.ntmps110
  go_wp2_with (go_at_call 132;refine HC.out.mono ?_;rintro e w1 ⟨rfl,hk1⟩)
  go_ret
  exact ⟨rfl,hk1⟩
 ·dsimp only
  rw[hG]at cL;have HC:=Lib.hid cL;obtain ⟨hok,hlen,hn9⟩:=j22 L 0 n hw hG (by omega);have hv:=j7r n (by omega);have hvl:=j4p n;generalize (j1g n).length=z at *;have HV:=Lib.hid hv;clear cL hG hok hw hlen hv
  go_enter Tryz.func110,Tryz.ntmps110
  go_wp2_with (first
   | (go_at_call 132;refine HC.out.mono ?_;rintro e w1 ⟨rfl,hk1⟩)
   | (go_at_call 133;refine (HV.out _).mono ?_;rintro e w2 ⟨rfl,rfl⟩))
  go_ret
  exact ⟨by simp,hk1⟩
theorem j77:∀ (L:List Pr) (m:Nat),(∀ p∈L,p.wf')→(∀ p∈L,p.ok=true)→m+(vO L).length≤268435455→xJ L m=some (m+(vO L).length)
 | [],m,_,_,_=>rfl
 | p :: t,m,hw,hk,h=>by
  have hl:p.lay.length=p.size:=jA2 (Pr.fits (hw p (by simp)) (hk p (by simp)));have e:(vO (p :: t)).length=p.size+(vO t).length:=by rw[show vO (p :: t)=p.lay++vO t from rfl,List.length_append,hl]
  rw[e]at h ⊢;rw[xJ,if_pos (hk p (by simp)),if_pos (by omega),j77 t _ (λq hq=>hw q (List.mem_cons_of_mem _ hq)) (λq hq=>hk q (List.mem_cons_of_mem _ hq)) (by omega)]
  congr 1
  omega
theorem j11 {w:World} {base n size:Nat} {e:TypeId} {v:Value} {xs:List Value} (h:w.ownsRow base e size v n xs):∃ a c,v=.slice a n c∧Row w a xs∧(a=none→n=0∧c=0):=by
 rcases h.2 with ⟨hv,h0⟩|⟨g,cap,cur,hv,_⟩
 ·subst hv h0
  exact ⟨none,0,rfl,(qi h).1,λ_=>⟨rfl,rfl⟩⟩
 ·subst hv
  exact ⟨_,_,rfl,(qi h).1,λh=>by cases h⟩
end Go.Proofs.YtnehnjklgglliaaGreatDoor
