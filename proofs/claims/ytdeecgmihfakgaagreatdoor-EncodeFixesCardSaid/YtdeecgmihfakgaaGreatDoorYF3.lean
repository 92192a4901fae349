import Derived.Test.YtdeecgmihfakgaaGreatDoorPrp
import Derived.Test.YtdeecgmihfakgaaGreatDoorYF1
import Derived.Deep.RegionHeld3
import Derived.Test.YtdeecgmihfakgaaGreatDoorYF2
import Derived.Lib.SliceRun
import Derived.Laws.StructEq
import Derived.Lib.AppendZerosOnto
namespace Go.Proofs.YtdeecgmihfakgaaGreatDoor
set_option maxHeartbeats 4000000
open Go.RowKit
set_option linter.unusedVariables false
set_option linter.unusedSimpArgs false
set_option maxRecDepth 100000
structure Pr where
 id:Nat
 n:Nat
 a:ByteArray
 b:ByteArray
deriving DecidableEq
def Pr.cells (p:Pr):List Value:=[.int .u8 p.id,.int .u32 p.n,.string p.a,.string p.b]
def Pr.val (p:Pr):Value:=.agg #[.int .u8 p.id,.int .u32 p.n,.string p.a,.string p.b]
structure Pr.wf (p:Pr):Prop where
 id:p.id<256
 n:p.n<4294967296
 a:p.a.size≤9223372036854775807
 b:p.b.size≤9223372036854775807
def Pr.zero:Pr:=⟨0,0,⟨#[]⟩,⟨#[]⟩⟩
def PC (L:List Pr):List Value:=L.flatMap Pr.cells
@[simp] theorem jP2:PC []=[]:=rfl
theorem j5p (p:Pr) (L:List Pr):PC (p :: L)=p.cells++PC L:=rfl
theorem xP (L M:List Pr):PC (L++M)=PC L++PC M:=by simp[PC]
theorem jBh (p:Pr):PC [p]=p.cells:=by simp[PC]
theorem xB (L:List Pr):(PC L).length=L.length*4:=by
 induction L with
 | nil=>rfl
 | cons p L ih=>rw[j5p,List.length_append,ih];simp[Pr.cells];omega
theorem zA (L:List Pr):∀ u∈PC L,u.oneCell'=true:=by
 intro u hu;obtain ⟨p,_,hp⟩:=List.mem_flatMap.1 hu;simp[Pr.cells]at hp;rcases hp with rfl|rfl|rfl|rfl<;>rfl
theorem jL6 (L:List Pr):∀ (k:Nat) (h:k<L.length),(PC L)[k*4]?=some (.int .u8 L[k].id)∧(PC L)[k*4+1]?=some (.int .u32 L[k].n)∧(PC L)[k*4+2]?=some (.string L[k].a)∧(PC L)[k*4+3]?=some (.string L[k].b):=by
 induction L with
 | nil=>intro k h;simp at h
 | cons p L ih =>
  intro k h;cases k with
  | zero=>simp[j5p,Pr.cells]
  | succ k =>
   have h1:=ih k (by simpa using h);have e:(p.cells).length=4:=rfl;rw[j5p];refine ⟨?_,?_,?_,?_⟩
   ·rw[List.getElem?_append_right (by rw[e];omega),e,show (k+1)*4 - 4=k*4 by omega];simpa using h1.1
   ·rw[List.getElem?_append_right (by rw[e];omega),e,show (k+1)*4+1 - 4=k*4+1 by omega];simpa using h1.2.1
   ·rw[List.getElem?_append_right (by rw[e];omega),e,show (k+1)*4+2 - 4=k*4+2 by omega];simpa using h1.2.2.1
   ·rw[List.getElem?_append_right (by rw[e];omega),e,show (k+1)*4+3 - 4=k*4+3 by omega];simpa using h1.2.2.2
theorem Row.prop {w:World} {a:Option Addr} {L:List Pr} (h:Row w a (PC L)) {k:Nat} (hk:k<L.length) :
  ∃ b off,a=some ⟨b,off,none⟩∧b<w.heap.size∧w.cell? ⟨b,off+k*4,none⟩=some (.int .u8 L[k].id)∧w.cell? ⟨b,off+k*4+1,none⟩=some (.int .u32 L[k].n)∧w.cell? ⟨b,off+k*4+2,none⟩=some (.string L[k].a)∧w.cell? ⟨b,off+k*4+3,none⟩=some (.string L[k].b):=by
 obtain ⟨h0,h1,h2,h3⟩:=jL6 L k hk;rcases h with h|⟨b,off,ha,hb,hc⟩
 ·have:=xB L;rw[h]at this;simp at this;omega
 ·refine ⟨b,off,ha,hb,hc _ _ h0,?_,?_,?_⟩
  ·rw[Nat.add_assoc];exact hc _ _ h1
  ·rw[Nat.add_assoc];exact hc _ _ h2
  ·rw[Nat.add_assoc];exact hc _ _ h3
def szP (id n:Nat) (a b:ByteArray):Nat :=
 if qD id=1 then 2 else if qD id=2 then 3 else if qD id=3 then 5 else if qD id=4 then 1+(ze n).length
 else if qD id=5 then 3+a.size else if qD id=6 then 3+a.size else if qD id=7 then 5+a.size+b.size else 0
def j5l (id n:Nat) (a b:ByteArray):List UInt8 :=
 if qD id=1 then j1g [jY id] n else if qD id=2 then j3a [jY id] n else if qD id=3 then j2r [jY id] n else if qD id=4 then vf [jY id] n
 else if qD id=7 then j0e (j0e [jY id] a) b else j0e [jY id] a
def Pr.size (p:Pr):Nat:=szP p.id p.n p.a p.b
def Pr.lay (p:Pr):List UInt8:=j5l p.id p.n p.a p.b
theorem j9w (l:List UInt8) (x:Nat):(j1g l x).length=l.length+1:=by simp[j1g]
theorem jBl (l:List UInt8) (x:Nat):(j3a l x).length=l.length+2:=by simp[j3a]
theorem j9x (l:List UInt8) (x:Nat):(j2r l x).length=l.length+4:=by simp[j2r]
theorem j3b (l:List UInt8) (x:Nat):(vf l x).length=l.length+(ze x).length:=by simp[vf]
theorem j39 (l:List UInt8) (s:ByteArray):(j0e l s).length=l.length+2+s.size:=by
 simp[j0e];omega
theorem xY (n:Nat):(ze n).length≤4:=by
 unfold ze
 split
 ·rename_i h
  have:=jBf n h
  split at this<;>(try split at this)<;>(try split at this)<;>(try split at this)<;>omega
 ·simp
theorem Lays.from {w0 w w':World} {l:List UInt8} {e:Ending} (h:Lays w l e w') (hk:Kept No w0 w):Lays w0 l e w':=by
 obtain ⟨g,cap,h1,h2,h3,h4⟩:=h;have hs:=hk.size;refine ⟨g,cap,h1,by omega,⟨h3.1,?_⟩,hk.trans h4⟩;rcases h3.2 with h|⟨g',cap',cur,q1,q2,q3⟩
 ·exact .inl h
 ·exact .inr ⟨g',cap',cur,q1,by omega,q3⟩
theorem jHz (id n:Nat) (a b:ByteArray) (w:World) (hn:n<4294967296) (ha:a.size≤9223372036854) (hb:b.size≤9223372036854) :
  Calls Tryz.prog 190 #[.agg #[.int .u8 id,.int .u32 n,.string a,.string b]] w λe w'=>e=.returned (.int .i64 (szP id n a b))∧Kept No w w':=by
 have cT:=j7k id;have ht:=zn id;have hv:=j56 n hn;have hvl:=xY n;unfold szP;generalize qD id=t at *;generalize (ze n).length=z at *;have HT:=Lib.hid cT;have HV:=Lib.hid hv;clear cT hv;rcases (show t=0∨t=1∨t=2∨t=3∨t=4∨t=5∨t=6∨t=7 from by omega) with rfl|rfl|rfl|rfl|rfl|rfl|rfl|rfl
 all_goals
  go_enter Tryz.func190,Tryz.ntmps190
  go_wp2_with (first
   | (go_at_call 196;refine (HT.out _).mono ?_;rintro e w1 ⟨rfl,rfl⟩)
   | (go_at_call 58;refine (HV.out _).mono ?_;rintro e w1 ⟨rfl,rfl⟩))
  go_ret
  exact ⟨by simp<;>rfl,(Kept.refl No w).alloc _⟩
structure jDw (id n:Nat) (a b:ByteArray):Prop where
 hid:id<256
 hn:n<4294967296
 ha:a.size≤65535
 hb:b.size≤65535
 ht:1≤qD id
theorem jJn (id n:Nat) (a b:ByteArray) (w:World) (hf:jDw id n a b) :
  Calls Tryz.prog 178 #[.agg #[.int .u8 id,.int .u32 n,.string a,.string b]] w (Lays w (j5l id n a b)):=by
 obtain ⟨h8,hn,ha,hb,ht1⟩:=hf;have cT:=j7k id;have ht:=zn id;unfold j5l;generalize qD id=t at *;have HT:=Lib.hid cT;clear cT;have hB0:=Blk.new w 158 #[.int .u8 id,.int .u32 n,.string a,.string b];have HB0:=Lib.hid hB0;have hk0:=(Kept.refl No w).alloc (.cells #[.int .u8 id,.int .u32 n,.string a,.string b] 158);have H1:=Lib.hid (λwx=>j67 none 0 [] id wx (by omega) (by omega) (Row.nil _ _) (λ_=>⟨rfl,rfl⟩) (by simp));have hL1:([]++[jY id]:List UInt8).length≤10:=by simp
 rw[show ([jY (id:Int)]:List UInt8)=[]++[jY (id:Int)] from rfl];generalize ([]++[jY (id:Int)]:List UInt8)=l at *;clear hB0;rcases (show t=1∨t=2∨t=3∨t=4∨t=5∨t=6∨t=7 from by omega) with rfl|rfl|rfl|rfl|rfl|rfl|rfl
 ·go_enter Tryz.func178,Tryz.ntmps178
  go_wp2_with fail
  go_at_call 99
  refine (H1.out _).mono ?_;rintro e w1 ⟨g,cap,rfl,hg,hown1,hk1⟩;have hr1:=Row.of_own hown1;have q0:=(HB0.out.kept hk1 (λf=>f)).cell 0;have q1:=(HB0.out.kept hk1 (λf=>f)).cell 1;have q2:=(HB0.out.kept hk1 (λf=>f)).cell 2;have q3:=(HB0.out.kept hk1 (λf=>f)).cell 3;simp at q0 q1 q2 q3
  go_wp2_with (go_at_call 196;refine (HT.out _).mono ?_;rintro e w2 ⟨rfl,rfl⟩)
  go_at_call 99
  refine (jNn _ _ _ n _ hr1 (by simp) (by omega)).mono ?_;rintro e w3 ⟨g2,c2,rfl,hg2,hown2,hk2⟩
  go_wp2
  go_ret
  exact Lays.from (w:=w1) ⟨g2,c2,rfl,hg2,hown2,hk2⟩ (hk0.trans hk1)
 ·go_enter Tryz.func178,Tryz.ntmps178
  go_wp2_with (first
   | (go_at_call 145;refine (jP5 _ _ _ n _ hr1 (by simp) (by omega)).mono ?_;rintro e w3 ⟨g2,c2,rfl,hg2,hown2,hk2⟩)
   | (go_at_call 99;refine (H1.out _).mono ?_;rintro e w1 ⟨g,cap,rfl,hg,hown1,hk1⟩;have hr1:=Row.of_own hown1;have q0:=(HB0.out.kept hk1 (λf=>f)).cell 0;have q1:=(HB0.out.kept hk1 (λf=>f)).cell 1;have q2:=(HB0.out.kept hk1 (λf=>f)).cell 2;have q3:=(HB0.out.kept hk1 (λf=>f)).cell 3;simp at q0 q1 q2 q3)
   | (go_at_call 196;refine (HT.out _).mono ?_;rintro e w2 ⟨rfl,rfl⟩))
  go_ret
  exact Lays.from (w:=w1) ⟨g2,c2,rfl,hg2,hown2,hk2⟩ (hk0.trans hk1)
 ·go_enter Tryz.func178,Tryz.ntmps178
  go_wp2_with (first
   | (go_at_call 197;refine (jOk _ _ _ n _ (by omega) hr1 (by simp) (by omega)).mono ?_;rintro e w3 ⟨g2,c2,rfl,hg2,hown2,hk2⟩)
   | (go_at_call 99;refine (H1.out _).mono ?_;rintro e w1 ⟨g,cap,rfl,hg,hown1,hk1⟩;have hr1:=Row.of_own hown1;have q0:=(HB0.out.kept hk1 (λf=>f)).cell 0;have q1:=(HB0.out.kept hk1 (λf=>f)).cell 1;have q2:=(HB0.out.kept hk1 (λf=>f)).cell 2;have q3:=(HB0.out.kept hk1 (λf=>f)).cell 3;simp at q0 q1 q2 q3)
   | (go_at_call 196;refine (HT.out _).mono ?_;rintro e w2 ⟨rfl,rfl⟩))
  go_ret
  exact Lays.from (w:=w1) ⟨g2,c2,rfl,hg2,hown2,hk2⟩ (hk0.trans hk1)
 ·go_enter Tryz.func178,Tryz.ntmps178
  go_wp2_with (first
   | (go_at_call 101;refine (jOx _ _ _ n _ (by omega) hr1 (by simp) (by omega)).mono ?_;rintro e w3 ⟨g2,c2,rfl,hg2,hown2,hk2⟩)
   | (go_at_call 99;refine (H1.out _).mono ?_;rintro e w1 ⟨g,cap,rfl,hg,hown1,hk1⟩;have hr1:=Row.of_own hown1;have q0:=(HB0.out.kept hk1 (λf=>f)).cell 0;have q1:=(HB0.out.kept hk1 (λf=>f)).cell 1;have q2:=(HB0.out.kept hk1 (λf=>f)).cell 2;have q3:=(HB0.out.kept hk1 (λf=>f)).cell 3;simp at q0 q1 q2 q3)
   | (go_at_call 196;refine (HT.out _).mono ?_;rintro e w2 ⟨rfl,rfl⟩))
  go_ret
  exact Lays.from (w:=w1) ⟨g2,c2,rfl,hg2,hown2,hk2⟩ (hk0.trans hk1)
 ·go_enter Tryz.func178,Tryz.ntmps178
  go_wp2_with (first
   | (go_at_call 176;refine (jIk _ _ _ a _ ha hr1 (by simp) (by omega)).mono ?_;rintro e w3 ⟨g2,c2,rfl,hg2,hown2,hk2⟩)
   | (go_at_call 99;refine (H1.out _).mono ?_;rintro e w1 ⟨g,cap,rfl,hg,hown1,hk1⟩;have hr1:=Row.of_own hown1;have q0:=(HB0.out.kept hk1 (λf=>f)).cell 0;have q1:=(HB0.out.kept hk1 (λf=>f)).cell 1;have q2:=(HB0.out.kept hk1 (λf=>f)).cell 2;have q3:=(HB0.out.kept hk1 (λf=>f)).cell 3;simp at q0 q1 q2 q3)
   | (go_at_call 196;refine (HT.out _).mono ?_;rintro e w2 ⟨rfl,rfl⟩))
  go_ret
  exact Lays.from (w:=w1) ⟨g2,c2,rfl,hg2,hown2,hk2⟩ (hk0.trans hk1)
 ·go_enter Tryz.func178,Tryz.ntmps178
  go_wp2_with (first
   | (go_at_call 176;refine (jIk _ _ _ a _ ha hr1 (by simp) (by omega)).mono ?_;rintro e w3 ⟨g2,c2,rfl,hg2,hown2,hk2⟩)
   | (go_at_call 99;refine (H1.out _).mono ?_;rintro e w1 ⟨g,cap,rfl,hg,hown1,hk1⟩;have hr1:=Row.of_own hown1;have q0:=(HB0.out.kept hk1 (λf=>f)).cell 0;have q1:=(HB0.out.kept hk1 (λf=>f)).cell 1;have q2:=(HB0.out.kept hk1 (λf=>f)).cell 2;have q3:=(HB0.out.kept hk1 (λf=>f)).cell 3;simp at q0 q1 q2 q3)
   | (go_at_call 196;refine (HT.out _).mono ?_;rintro e w2 ⟨rfl,rfl⟩))
  go_ret
  exact Lays.from (w:=w1) ⟨g2,c2,rfl,hg2,hown2,hk2⟩ (hk0.trans hk1)
 ·go_enter Tryz.func178,Tryz.ntmps178
  go_wp2_with (first
   | (go_at_call 99;refine (H1.out _).mono ?_;rintro e w1 ⟨g,cap,rfl,hg,hown1,hk1⟩;have hr1:=Row.of_own hown1;have q0:=(HB0.out.kept hk1 (λf=>f)).cell 0;have q1:=(HB0.out.kept hk1 (λf=>f)).cell 1;have q2:=(HB0.out.kept hk1 (λf=>f)).cell 2;have q3:=(HB0.out.kept hk1 (λf=>f)).cell 3;simp at q0 q1 q2 q3)
   | (go_at_call 196;refine (HT.out _).mono ?_;rintro e w2 ⟨rfl,rfl⟩))
  have hQ:=HB0.out.kept hk1 (λf=>f);have hA3:(j0e l a).length≤100000:=by rw[j39];omega
  have HA3:=Lib.hid hA3;clear hA3 q0 q1 q2 q3;refine wp_region_held_drew (S:=(λwx=>wx.cell? ⟨w.heap.size,2,none⟩=some (.string a)∧wx.cell? ⟨w.heap.size,3,none⟩=some (.string b))) (by kernel_rfl) ?_ (λhHeld=>?_)
  ·exact ⟨hQ.drew.cell 2,hQ.drew.cell 3⟩
  refine wtk (i:=0) (v:=?vvz0) rfl (Or.inl ⟨by rfl,?hhz0⟩) (by assumption) ?rrz0
  case hhz0=>(intro wz9 hSw;(try dsimp only at hSw);go_simp;try with_reducible rfl)
  go_simp
  refine wtk (i:=1) (v:=?vvz1) rfl (Or.inl ⟨by rfl,?hhz1⟩) (by assumption) ?rrz1
  case hhz1=>(intro wz9 hSw;(try dsimp only at hSw);go_simp;try with_reducible rfl)
  go_simp
  refine wtk (i:=2) (v:=?vvz2) rfl (Or.inl ⟨by rfl,?hhz2⟩) (by assumption) ?rrz2
  case hhz2=>(intro wz9 hSw;(try dsimp only at hSw);go_simp;try with_reducible rfl)
  go_simp
  refine wtk (i:=4) (v:=?vvz4) rfl (Or.inl ⟨by rfl,?hhz4⟩) (by assumption) ?rrz4
  case hhz4=>(intro wz9 hSw;(try dsimp only at hSw);go_simp;try with_reducible rfl)
  go_simp
  refine wtk (i:=5) (v:=?vvz5) rfl (Or.inl ⟨by rfl,?hhz5⟩) (by assumption) ?rrz5
  case hhz5=>(intro wz9 hSw;(try dsimp only at hSw);go_simp;try with_reducible rfl)
  go_simp
  refine wpAnyH_ready (rs:=[3]) (by kernel_rfl) (by simp) ?_;refine AllReadyH.cons rfl (λK9 hK9=>?_) AllReadyH.nil
  go_simp
  go_wp2_with (go_at_call 176;refine (jIk _ _ _ a _ ha (hr1.keptNo ((Kept.refl No w1).drew)) (by simp) (by omega)).mono ?_;rintro e w3 ⟨g3,c3,rfl,hg3,hown3,hk3⟩;have hQ3:=hQ.drew.kept hk3 (λf=>f))
  refine hK9.out _ _ ?_ (λhHeld=>?_)
  ·exact ⟨hQ3.cell 2,hQ3.cell 3⟩
  clear hK9 K9;refine wpAnyH_ready (rs:=[6]) (by kernel_rfl) (by simp) ?_;refine AllReadyH.cons rfl (λK9 hK9=>?_) AllReadyH.nil
  go_simp
  go_wp2_with (go_at_call 176;refine (jIk _ _ _ b _ hb (Row.of_own hown3) (by simp) HA3.out).mono ?_;rintro e w4 ⟨g2,c2,rfl,hg2,hown2,hk2⟩;have hQ4:=hQ3.kept hk2 (λf=>f))
  refine hK9.out _ _ ?_ (λhHeld=>?_)
  ·exact ⟨hQ4.cell 2,hQ4.cell 3⟩
  clear hK9 K9;refine wtk (i:=7) (v:=?vvz7) rfl (Or.inl ⟨by rfl,?hhz7⟩) (by assumption) ?rrz7
  case hhz7=>(intro wz9 hSw;(try dsimp only at hSw);go_simp;try with_reducible rfl)
  go_simp
  refine wpAnyH_done (by kernel_rfl) ?_ _
  go_wp2
  go_ret
  exact Lays.from (w:=w3) ⟨g2,c2,rfl,hg2,hown2,hk2⟩ ((hk0.trans hk1).drew.trans hk3)
theorem jBj (l:List UInt8) (n:Nat):l++be (0+1) n=j1g l n:=by
 simp[be,j1g]
theorem jDx (l:List UInt8) (n:Nat):l++be (1+1) n=j3a l n:=by
 simp only[be,j3a,Nat.pow_zero,Nat.div_one,Nat.pow_one];rw[show (((n / 256:Nat):Int) % 256)=(n:Int) % 65536 / 256 by omega,show ((n:Int) % 256)=(n:Int) % 65536 % 256 by omega]
theorem jBk (l:List UInt8) (n:Nat) (h:n<4294967296):l++be (3+1) n=j2r l n:=by
 rw[jIi n (by omega)];rfl
theorem jHa (a:Option Addr) (c:Nat) (l:List UInt8) (n:Nat) (w:World) (h1:n<4294967296) (hr:Row w a (B8 l)) (hn:a=none→c=0) (hl:l.length≤100000) :
  Calls Tryz.prog 69 #[.slice a l.length c,.int .u64 n,.int .i64 1] w (Lays w (j1g l n)):=by
 have:=j0q a c l n 1 0 (by omega) w (by omega) (by omega) hr hn (by omega)
 rw[jBj]at this;exact this
theorem jHb (a:Option Addr) (c:Nat) (l:List UInt8) (n:Nat) (w:World) (h1:n<4294967296) (hr:Row w a (B8 l)) (hn:a=none→c=0) (hl:l.length≤100000) :
  Calls Tryz.prog 69 #[.slice a l.length c,.int .u64 n,.int .i64 2] w (Lays w (j3a l n)):=by
 have:=j0q a c l n 2 1 (by omega) w (by omega) (by omega) hr hn (by omega)
 rw[jDx]at this;exact this
theorem jHc (a:Option Addr) (c:Nat) (l:List UInt8) (n:Nat) (w:World) (h1:n<4294967296) (hr:Row w a (B8 l)) (hn:a=none→c=0) (hl:l.length≤100000) :
  Calls Tryz.prog 69 #[.slice a l.length c,.int .u64 n,.int .i64 4] w (Lays w (j2r l n)):=by
 have:=j0q a c l n 4 3 (by omega) w (by omega) (by omega) hr hn (by omega)
 rw[jBk l n h1]at this;exact this
theorem jJr (id n:Nat) (a b:ByteArray) (w:World) (hf:jDw id n a b) :
  Calls Tryz.prog 163 #[.agg #[.int .u8 id,.int .u32 n,.string a,.string b]] w (Lays w (j5l id n a b)):=by
 obtain ⟨h8,hn,ha,hb,ht1⟩:=hf;have cT:=xW id;have ht:=zn id;unfold j5l;generalize qD id=t at *;have HT:=Lib.hid cT;clear cT;have hB0:=(Blk.new w 92 #[.int .u8 id,.int .u32 n,.string a,.string b]).alloc (.cells #[.int .u8 id] 5)
 have hR0:Row ((w.alloc (.cells #[.int .u8 id,.int .u32 n,.string a,.string b] 92)).alloc (.cells #[.int .u8 id] 5)) (some ⟨w.heap.size+1,0,none⟩) (B8 [jY id]):=by
  rw[zL (by omega) (by omega)];have h:=(Blk.new (w.alloc (.cells #[.int .u8 id,.int .u32 n,.string a,.string b] 92)) 5 #[.int .u8 id])
  rw[show (w.alloc (.cells #[.int .u8 id,.int .u32 n,.string a,.string b] 92)).heap.size=w.heap.size+1 by simp]at h;refine .inr ⟨_,_,rfl,h.lt,λj u hu=>?_⟩;rw[h.cell];simpa using hu
 have hk0:=((Kept.refl No w).alloc (.cells #[.int .u8 id,.int .u32 n,.string a,.string b] 92)).alloc (.cells #[.int .u8 id] 5);have hL1:([jY id]:List UInt8).length≤10:=by simp
 have HR0:=Lib.hid hR0;have hL9:([jY id]:List UInt8).length=1:=rfl;have HL9:=Lib.hid hL9;clear hR0 hL9;generalize ([jY (id:Int)]:List UInt8)=l at *;have HB0:=Lib.hid hB0;have q0:=hB0.cell 0;have q1:=hB0.cell 1;have q2:=hB0.cell 2;have q3:=hB0.cell 3;simp at q0 q1 q2 q3;clear hB0;have hone:∀ (g:Addr) (c:Nat),(Value.slice (some g) 1 c)=.slice (some g) l.length c:=λg c=>by rw[HL9.out]
 have HONE:=Lib.hid hone;clear hone;rcases (show t=1∨t=2∨t=3∨t=4∨t=5∨t=6∨t=7 from by omega) with rfl|rfl|rfl|rfl|rfl|rfl|rfl
 ·have hc9:=jHa (some ⟨w.heap.size+1,0,none⟩) 1 l n _ hn HR0.out (by simp) (by omega)
  rw[HL9.out]at hc9;have HC:=Lib.hid hc9;clear hc9
  go_enter Tryz.func163,Tryz.ntmps163
  go_wp2_with (first
   | (go_at_call 139;refine (HT.out _).mono ?_;rintro e w2 ⟨rfl,rfl⟩)
   | (go_at_call 69;refine HC.out.mono ?_;rintro e w3 ⟨g2,c2,rfl,hg2,hown2,hk2⟩))
  go_ret
  exact Lays.from (w:=(w.alloc (.cells #[.int .u8 id,.int .u32 n,.string a,.string b] 92)).alloc (.cells #[.int .u8 id] 5)) ⟨g2,c2,rfl,hg2,hown2,hk2⟩ hk0
 ·have hc9:=jHb (some ⟨w.heap.size+1,0,none⟩) 1 l n _ hn HR0.out (by simp) (by omega)
  rw[HL9.out]at hc9;have HC:=Lib.hid hc9;clear hc9
  go_enter Tryz.func163,Tryz.ntmps163
  go_wp2_with (first
   | (go_at_call 139;refine (HT.out _).mono ?_;rintro e w2 ⟨rfl,rfl⟩)
   | (go_at_call 69;refine HC.out.mono ?_;rintro e w3 ⟨g2,c2,rfl,hg2,hown2,hk2⟩))
  go_ret
  exact Lays.from (w:=(w.alloc (.cells #[.int .u8 id,.int .u32 n,.string a,.string b] 92)).alloc (.cells #[.int .u8 id] 5)) ⟨g2,c2,rfl,hg2,hown2,hk2⟩ hk0
 ·have hc9:=jHc (some ⟨w.heap.size+1,0,none⟩) 1 l n _ hn HR0.out (by simp) (by omega)
  rw[HL9.out]at hc9;have HC:=Lib.hid hc9;clear hc9
  go_enter Tryz.func163,Tryz.ntmps163
  go_wp2_with (first
   | (go_at_call 139;refine (HT.out _).mono ?_;rintro e w2 ⟨rfl,rfl⟩)
   | (go_at_call 69;refine HC.out.mono ?_;rintro e w3 ⟨g2,c2,rfl,hg2,hown2,hk2⟩))
  go_ret
  exact Lays.from (w:=(w.alloc (.cells #[.int .u8 id,.int .u32 n,.string a,.string b] 92)).alloc (.cells #[.int .u8 id] 5)) ⟨g2,c2,rfl,hg2,hown2,hk2⟩ hk0
 ·have hc9:=jHm (some ⟨w.heap.size+1,0,none⟩) 1 l n _ (by omega) HR0.out (by simp) (by omega)
  rw[HL9.out]at hc9;have HC:=Lib.hid hc9;clear hc9
  go_enter Tryz.func163,Tryz.ntmps163
  go_wp2_with (first
   | (go_at_call 139;refine (HT.out _).mono ?_;rintro e w2 ⟨rfl,rfl⟩)
   | (go_at_call 55;refine HC.out.mono ?_;rintro e w3 ⟨g2,c2,rfl,hg2,hown2,hk2⟩))
  go_ret
  exact Lays.from (w:=(w.alloc (.cells #[.int .u8 id,.int .u32 n,.string a,.string b] 92)).alloc (.cells #[.int .u8 id] 5)) ⟨g2,c2,rfl,hg2,hown2,hk2⟩ hk0
 ·have hc9:=xV (some ⟨w.heap.size+1,0,none⟩) 1 l a _ ha HR0.out (by simp) (by omega)
  rw[HL9.out]at hc9;have HC:=Lib.hid hc9;clear hc9
  go_enter Tryz.func163,Tryz.ntmps163
  go_wp2_with (first
   | (go_at_call 139;refine (HT.out _).mono ?_;rintro e w2 ⟨rfl,rfl⟩)
   | (go_at_call 68;refine HC.out.mono ?_;rintro e w3 ⟨g2,c2,rfl,hg2,hown2,hk2⟩))
  go_ret
  exact Lays.from (w:=(w.alloc (.cells #[.int .u8 id,.int .u32 n,.string a,.string b] 92)).alloc (.cells #[.int .u8 id] 5)) ⟨g2,c2,rfl,hg2,hown2,hk2⟩ hk0
 ·have hc9:=xV (some ⟨w.heap.size+1,0,none⟩) 1 l a _ ha HR0.out (by simp) (by omega)
  rw[HL9.out]at hc9;have HC:=Lib.hid hc9;clear hc9
  go_enter Tryz.func163,Tryz.ntmps163
  go_wp2_with (first
   | (go_at_call 139;refine (HT.out _).mono ?_;rintro e w2 ⟨rfl,rfl⟩)
   | (go_at_call 68;refine HC.out.mono ?_;rintro e w3 ⟨g2,c2,rfl,hg2,hown2,hk2⟩))
  go_ret
  exact Lays.from (w:=(w.alloc (.cells #[.int .u8 id,.int .u32 n,.string a,.string b] 92)).alloc (.cells #[.int .u8 id] 5)) ⟨g2,c2,rfl,hg2,hown2,hk2⟩ hk0
 ·go_enter Tryz.func163,Tryz.ntmps163
  have hc9:=xV (some ⟨w.heap.size+1,0,none⟩) 1 l a _ ha (HR0.out.keptNo ((Kept.refl No _).drew)) (by simp) (by omega);rw[HL9.out]at hc9;have HC:=Lib.hid hc9;clear hc9
  go_wp2_with (first
   | (go_at_call 139;refine (HT.out _).mono ?_;rintro e w2 ⟨rfl,rfl⟩))
  have hQ:=HB0.out;have hA3:(j0e l a).length≤100000:=by rw[j39];omega
  have HA3:=Lib.hid hA3;clear hA3 q0 q1 q2 q3;refine wp_region_held_drew (S:=(λwx=>wx.cell? ⟨w.heap.size,2,none⟩=some (.string a)∧wx.cell? ⟨w.heap.size,3,none⟩=some (.string b))) (by kernel_rfl) ?_ (λhHeld=>?_)
  ·exact ⟨hQ.drew.cell 2,hQ.drew.cell 3⟩
  refine wtk (i:=0) (v:=?vvz0) rfl (Or.inl ⟨by rfl,?hhz0⟩) (by assumption) ?rrz0
  case hhz0=>(intro wz9 hSw;(try dsimp only at hSw);go_simp;try with_reducible rfl)
  go_simp
  refine wtk (i:=1) (v:=?vvz1) rfl (Or.inl ⟨by rfl,?hhz1⟩) (by assumption) ?rrz1
  case hhz1=>(intro wz9 hSw;(try dsimp only at hSw);go_simp;try with_reducible rfl)
  go_simp
  refine wtk (i:=2) (v:=?vvz2) rfl (Or.inl ⟨by rfl,?hhz2⟩) (by assumption) ?rrz2
  case hhz2=>(intro wz9 hSw;(try dsimp only at hSw);go_simp;try with_reducible rfl)
  go_simp
  refine wtk (i:=4) (v:=?vvz4) rfl (Or.inl ⟨by rfl,?hhz4⟩) (by assumption) ?rrz4
  case hhz4=>(intro wz9 hSw;(try dsimp only at hSw);go_simp;try with_reducible rfl)
  go_simp
  refine wtk (i:=5) (v:=?vvz5) rfl (Or.inl ⟨by rfl,?hhz5⟩) (by assumption) ?rrz5
  case hhz5=>(intro wz9 hSw;(try dsimp only at hSw);go_simp;try with_reducible rfl)
  go_simp
  refine wpAnyH_ready (rs:=[3]) (by kernel_rfl) (by simp) ?_;refine AllReadyH.cons rfl (λK9 hK9=>?_) AllReadyH.nil
  go_simp
  go_wp2_with (go_at_call 68;refine HC.out.mono ?_;rintro e w3 ⟨g3,c3,rfl,hg3,hown3,hk3⟩;have hQ3:=hQ.drew.kept hk3 (λf=>f))
  refine hK9.out _ _ ?_ (λhHeld=>?_)
  ·exact ⟨hQ3.cell 2,hQ3.cell 3⟩
  clear hK9 K9;refine wpAnyH_ready (rs:=[6]) (by kernel_rfl) (by simp) ?_;refine AllReadyH.cons rfl (λK9 hK9=>?_) AllReadyH.nil
  go_simp
  go_wp2_with (go_at_call 68;refine (xV _ _ _ b _ hb (Row.of_own hown3) (by simp) HA3.out).mono ?_;rintro e w4 ⟨g2,c2,rfl,hg2,hown2,hk2⟩;have hQ4:=hQ3.kept hk2 (λf=>f))
  refine hK9.out _ _ ?_ (λhHeld=>?_)
  ·exact ⟨hQ4.cell 2,hQ4.cell 3⟩
  clear hK9 K9;refine wtk (i:=7) (v:=?vvz7) rfl (Or.inl ⟨by rfl,?hhz7⟩) (by assumption) ?rrz7
  case hhz7=>(intro wz9 hSw;(try dsimp only at hSw);go_simp;try with_reducible rfl)
  go_simp
  refine wpAnyH_done (by kernel_rfl) ?_ _
  go_wp2
  go_ret
  exact Lays.from (w:=w3) ⟨g2,c2,rfl,hg2,hown2,hk2⟩ (hk0.drew.trans hk3)
def OwnB (w:World) (l:List UInt8) (e:Ending) (w':World):Prop :=
 ∃ a c,e=.returned (.slice a l.length c)∧w'.ownsRow w.heap.size 5 1 (.slice a l.length c) l.length (B8 l)∧Kept No w w'
theorem Lays.own {w w':World} {l:List UInt8} {e:Ending} (h:Lays w l e w'):OwnB w l e w':=by
 obtain ⟨g,cap,h1,_,h3,h4⟩:=h;exact ⟨_,_,h1,h3,h4⟩
theorem jV {w:World} {base n c size:Nat} {e:TypeId} {a:Option Addr} {xs:List Value} (h:w.ownsRow base e size (.slice a n c) n xs):Row w a xs∧(a=none→n=0∧c=0):=by
 rcases h.2 with ⟨hv,h0⟩|⟨g,cap,cur,hv,hg,hb,hn,hm,hs,hx⟩
 ·injection hv with e1 e2 e3
  subst e1 e2 e3
  have:xs=[]:=List.length_eq_zero_iff.1 (by rw[h.1];simp)
  exact ⟨.inl this,λ_=>⟨rfl,rfl⟩⟩
 ·injection hv with e1 e2 e3
  subst e1;refine ⟨.of_cells λj u hu=>h.cells (g:=g) rfl j u hu,λh=>by cases h⟩
theorem zX (w:World) (base:Nat) (e:TypeId) (size:Nat) (hb:base≤w.heap.size):(w.alloc (.cells #[] e)).ownsRow base e size (.slice (some ⟨w.heap.size,0,none⟩) 0 0) 0 [] :=
 ⟨by simp,.inr ⟨w.heap.size,0,#[],rfl,hb,Blk.new w e #[],by omega,by simp[maxLen],by simp,by simp⟩⟩
theorem xM {w:World} {b0 base size n:Nat} {e:TypeId} {v:Value} {xs:List Value} (h:w.ownsRow base e size v n xs) (hb:b0≤base):w.ownsRow b0 e size v n xs:=by
 refine ⟨h.1,?_⟩;rcases h.2 with h|⟨g,cap,cur,q1,q2,q3⟩
 ·exact .inl h
 ·exact .inr ⟨g,cap,cur,q1,by omega,q3⟩
theorem OwnB.from {w0 w w':World} {l:List UInt8} {e:Ending} (h:OwnB w l e w') (hk:Kept No w0 w):OwnB w0 l e w':=by
 obtain ⟨a,c,h1,h3,h4⟩:=h;exact ⟨a,c,h1,xM h3 hk.size,hk.trans h4⟩
theorem jBo (a:Option Addr) (c:Nat) (l:List UInt8) (w:World) (hr:Row w a (B8 l)) (hn:a=none→l.length=0∧c=0) (hl:l.length≤140737000000000) :
  Calls Tryz.prog 91 #[.slice a l.length c] w (OwnB w l):=by
 have q36:∀ (w:World) (a:Option Addr) (n c n' c':Nat),(binOp .eql 25 (.slice a n c) (.slice none n' c')).run Tryz.prog w=.ok (.bool a.isNone) w:=λw a n c n' c'=>Lib.run_eql_slice_nil w _ _ a n c n' c' Tryz.underlying25
 obtain ⟨i0,hi,hz0,hz1,hz2⟩:=info_parts qi;cases a with
 | none =>
  obtain ⟨h0,rfl⟩:=hn rfl;obtain rfl:l=[]:=List.length_eq_zero_iff.1 h0
  go_enter Tryz.func91,Tryz.ntmps91
  go_wp2
  go_ret
  exact ⟨none,0,rfl,World.ownsRow_nil _ _ _ _,Kept.refl _ _⟩
 | some ad =>
  go_enter Tryz.func91,Tryz.ntmps91
  go_wp2_with (at_builtin;refine jm _ rfl _ _ _ rfl w.heap.size 5 i0 _ 1 Tryz.underlying25 hi hz0 hz1 hz2 rfl _ _ _ rfl (xx w _ _ (Nat.le_refl _)) (some ad) l.length c (B8 l) rfl (by simp) ?c0 (by simp) (v8 _) ?c1 ?c2 ?c3 ?_;rotate_right;intro v1 w1 hown1 hg1 hv1)
  case c0=>exact hr.keptNo ((Kept.refl No w).alloc _)
  case c1=>unfold maxLen;omega
  case c2=>omega
  case c3=>simp
  go_ret
  exact (jAo hown1 (by simp) (by simp) (by intro h;have h9:=hv1.1 h;cases h9.1) (((Kept.refl No w).alloc _).grown hg1 (qq (xx w _ 5 (Nat.le_refl _))))).own
theorem jEh:(Tryz.prog.info? 158).map (λi=>(i.zero,i.size,i.bytes))=some (some (.agg #[.int .u8 0,.int .u32 0,.string ⟨#[]⟩,.string ⟨#[]⟩]),4,40):=by kernel_rfl
theorem j3i:(Tryz.prog.info? 92).map (λi=>(i.zero,i.size,i.bytes))=some (some (.agg #[.int .u8 0,.int .u32 0,.string ⟨#[]⟩,.string ⟨#[]⟩]),4,40):=by kernel_rfl
def OwnP (e:TypeId) (w:World) (L:List Pr) (ed:Ending) (w':World):Prop :=
 ∃ a c,ed=.returned (.slice a L.length c)∧w'.ownsRow w.heap.size e 4 (.slice a L.length c) L.length (PC L)∧Kept No w w'
theorem j9e {e:TypeId} {w w':World} {v:Value} {L:List Pr} {n:Nat} {xs:List Value} (h:w'.ownsRow w.heap.size e 4 v n xs) (hn:n=L.length) (hx:xs=PC L) (hk:Kept No w w'):OwnP e w L (.returned v) w':=by
 subst hn hx;rcases h.2 with ⟨hv,h0⟩|⟨g,cap,cur,hv,_⟩
 ·subst hv
  exact ⟨none,0,by rw[h0],by rw[h0]at h ⊢;exact h,hk⟩
 ·subst hv
  exact ⟨_,_,rfl,h,hk⟩
theorem OwnP.from {t:TypeId} {w0 w w':World} {L:List Pr} {e:Ending} (h:OwnP t w L e w') (hk:Kept No w0 w):OwnP t w0 L e w':=by
 obtain ⟨a,c,h1,h3,h4⟩:=h;exact ⟨a,c,h1,xM h3 hk.size,hk.trans h4⟩
theorem j4i {L:List Pr} {j:Nat} (h:j<L.length):L.take (j+1)=L.take j++[L[j]]:=List.take_succ_eq_append_getElem h
theorem j0d (L:List Pr) (p:Pr):(PC [p]).length=1*4:=by rw[xB];rfl
theorem j2f {w:World} {t:TypeId} {p:Pr}:∀ j u,(PC [p])[j]?=some u→(w.alloc (.cells #[.int .u8 p.id,.int .u32 p.n,.string p.a,.string p.b] t)).cell? ((⟨w.heap.size,0,none⟩:Addr).add j)=some u:=by
 have h:PC [p]=[.int .u8 p.id,.int .u32 p.n,.string p.a,.string p.b]:=by rw[jBh];rfl
 rw[h];exact j4w rfl
theorem qv (a:Option Addr) (c:Nat) (L:List Pr) (w:World) (hr:Row w a (PC L)) (hl:L.length≤100000) :
  Calls Tryz.prog 49 #[.slice a L.length c] w (OwnP 158 w L):=by
 obtain ⟨i0,hi,hz0,hz1,hz2⟩:=info_parts jEh
 go_enter Tryz.func49,Tryz.ntmps49
 go_wp2
 go_loopw [3,4] (λs i wr=>∃ j:Nat,i=.int .i64 j∧j≤L.length∧wr.ownsRow w.heap.size 158 4 s j (PC (L.take j))∧Kept No w wr) (λ_ i _=>L.length - (intOf i).toNat)
 case atStart=>exact ⟨0,rfl,by omega,World.ownsRow_nil _ _ _ _,Kept.refl _ _⟩
 case round =>
  obtain ⟨j,rfl,hj,hown,hk⟩:=hrel;have hsz:=hk.size
  by_cases hlt:j<L.length
  ·obtain ⟨b,off,rfl,hb,q0,q1,q2,q3⟩:=(hr.keptNo hk).prop hlt
   have HT:=Lib.hid (j4i hlt);generalize L[j]=p at *;obtain ⟨id,n,A,B⟩:=p;dsimp only at q0 q1 q2 q3
   go_wp2_with (first
    | (go_at_call 97;refine (jN8 id n A B _).mono ?_;rintro e w2 ⟨rfl,hk2⟩;have hown1:=jW hown hk2)
    | (at_builtin;refine wpList_append_own _ rfl _ _ _ rfl w.heap.size 158 i0 _ 4 40 Tryz.underlying30 hi hz0 hz1 hz2 rfl (by decide) _ _ _ rfl (hown1.alloc _) ⟨w2.heap.size,0,none⟩ 1 1 (PC [⟨id,n,A,B⟩]) rfl ?c0 ?c1 (zA _) ?c2 ?c3 ?c4 ?_;rotate_right;intro v3 w3 hown3 hg3 _))
   case c0=>exact j0d [] _
   case c1=>exact j2f (p:=⟨id,n,A,B⟩)
   case c2=>unfold maxLen;omega
   case c3=>omega
   case c4=>have:=hk2.size;simp;omega
   go_roundw
   case rel=>exact ⟨j+1,by go_num,by omega,by rw[HT.out,xP];exact hown3,((hk.trans hk2).alloc _).grown hg3 (qq hown1)⟩
   case measure=>simp[intOf];omega
  ·have hje:j=L.length:=by omega
   have HF:=Lib.hid (List.take_of_length_le (l:=L) (i:=j) (by omega))
   go_wp2
   go_ret
   exact j9e hown hje (by rw[HF.out]) hk
theorem toList_inj (a b:ByteArray):a.toList=b.toList↔a=b:=by
 rw[Lib.toList_data,Lib.toList_data];exact ⟨λh=>ByteArray.ext (Array.toList_inj.1 h),λh=>by rw[h]⟩
theorem jL0 (i1 n1 i2 n2:Nat) (a1 b1 a2 b2:ByteArray) (w:World):Sem.run Tryz.prog (binOp .neq 158 (.agg #[.int .u8 i1,.int .u32 n1,.string a1,.string b1]) (.agg #[.int .u8 i2,.int .u32 n2,.string a2,.string b2])) w=.ok (.bool (!decide ((⟨i1,n1,a1,b1⟩:Pr)=⟨i2,n2,a2,b2⟩))) w:=by
 have hS:Tryz.prog.underlying 158=some (.struct (Tryz.prog.fieldsOf 158)):=by kernel_rfl
 have hp:Tryz.prog.stoodInHeld 158=false:=by kernel_rfl
 rw[run_neq_struct,show (10000:Nat)=9999+1 from rfl,run_equalIn_agg w 9999 158 _ _ hS hp];simp only[Program.fieldsOf,Tryz.underlying158];have u0:=Tryz.underlying5;have u1:=Tryz.underlying81;have u2:=Tryz.underlying9
 go_simp
 by_cases h1:i1=i2<;>by_cases h2:n1=n2<;>by_cases h3:a1=a2<;>by_cases h4:b1=b2<;>simp[h1,h2,h3,h4,toList_inj,Int.natCast_inj]
theorem jL1 (i1 n1 i2 n2:Nat) (a1 b1 a2 b2:ByteArray) (w:World):Sem.run Tryz.prog (binOp .neq 92 (.agg #[.int .u8 i1,.int .u32 n1,.string a1,.string b1]) (.agg #[.int .u8 i2,.int .u32 n2,.string a2,.string b2])) w=.ok (.bool (!decide ((⟨i1,n1,a1,b1⟩:Pr)=⟨i2,n2,a2,b2⟩))) w:=by
 have hS:Tryz.prog.underlying 92=some (.struct (Tryz.prog.fieldsOf 92)):=by kernel_rfl
 have hp:Tryz.prog.stoodInHeld 92=false:=by kernel_rfl
 rw[run_neq_struct,show (10000:Nat)=9999+1 from rfl,run_equalIn_agg w 9999 92 _ _ hS hp];simp only[Program.fieldsOf,Tryz.underlying92];have u0:=Tryz.underlying5;have u1:=Tryz.underlying81;have u2:=Tryz.underlying9
 go_simp
 by_cases h1:i1=i2<;>by_cases h2:n1=n2<;>by_cases h3:a1=a2<;>by_cases h4:b1=b2<;>simp[h1,h2,h3,h4,toList_inj,Int.natCast_inj]
theorem j8l {L M:List Pr} {j:Nat} (h:L.take j=M.take j) (h1:j<L.length) (h2:j<M.length) (he:L[j]=M[j]):L.take (j+1)=M.take (j+1):=by rw[j4i h1,j4i h2,h,he]
theorem jKy {L M:List Pr} {j:Nat} (h1:j<L.length) (h2:j<M.length) (he:L[j]≠M[j]):decide (L=M)=false:=by
 refine decide_eq_false λe=>he ?_
 subst e
 rfl
theorem j8e (a:Option Addr) (c:Nat) (L:List Pr) (a9:Option Addr) (c9:Nat) (M:List Pr) (w:World) (hr:Row w a (PC L)) (hr9:Row w a9 (PC M)) (hl:L.length≤100000) (hl9:M.length≤100000) :
  Calls Tryz.prog 71 #[.slice a L.length c,.slice a9 M.length c9] w λe w'=>e=.returned (.bool (decide (L=M)))∧Kept No w w':=by
 by_cases hlen:L.length=M.length
 ·have HL:=Lib.hid hlen
  have hne:((L.length:Int) != (M.length:Int))=false:=by simp;omega
  clear hlen
  go_enter Tryz.func71,Tryz.ntmps71
  go_wp2
  go_loopw [5] (λi wr=>∃ j:Nat,i=.int .i64 j∧j≤L.length∧Hid (L.take j=M.take j)∧Kept No w wr) (λi _=>L.length - (intOf i).toNat)
  case atStart=>exact ⟨0,rfl,by omega,Lib.hid rfl,Kept.refl _ _⟩
  case round =>
   obtain ⟨j,rfl,hj,HT,hk⟩:=hrel
   by_cases hlt:j<L.length
   ·have hlt9:j<M.length:=by rw[← HL.out];exact hlt
    obtain ⟨b,off,rfl,hb,q0,q1,q2,q3⟩:=(hr.keptNo hk).prop hlt;obtain ⟨b9,of9,rfl,hb9,r0,r1,r2,r3⟩:=(hr9.keptNo hk).prop hlt9;have HS:=Lib.hid (j8l HT.out hlt hlt9);have HN:=Lib.hid (jKy (L:=L) (M:=M) hlt hlt9);generalize L[j]=p at *;generalize M[j]=q at *;obtain ⟨i1,n1,a1,b1⟩:=p;obtain ⟨i2,n2,a2,b2⟩:=q;dsimp only at q0 q1 q2 q3 r0 r1 r2 r3
    by_cases he:(⟨i1,n1,a1,b1⟩:Pr)=⟨i2,n2,a2,b2⟩
    ·have HS2:=Lib.hid (HS.out he)
     have hq:∀ wx,Sem.run Tryz.prog (binOp .neq 92 (.agg #[.int .u8 i1,.int .u32 n1,.string a1,.string b1]) (.agg #[.int .u8 i2,.int .u32 n2,.string a2,.string b2])) wx=.ok (.bool false) wx:=λwx=>by rw[jL1,decide_eq_true he];rfl
     clear he HS HN
     go_wp2
     refine wp_region_held_drew (S:=(λwx=>(wx.cell? ⟨b,off+j*4,none⟩=some (.int .u8 i1)∧wx.cell? ⟨b,off+j*4+1,none⟩=some (.int .u32 n1)∧wx.cell? ⟨b,off+j*4+2,none⟩=some (.string a1)∧wx.cell? ⟨b,off+j*4+3,none⟩=some (.string b1))∧(wx.cell? ⟨b9,of9+j*4,none⟩=some (.int .u8 i2)∧wx.cell? ⟨b9,of9+j*4+1,none⟩=some (.int .u32 n2)∧wx.cell? ⟨b9,of9+j*4+2,none⟩=some (.string a2)∧wx.cell? ⟨b9,of9+j*4+3,none⟩=some (.string b2)))) (by kernel_rfl) ?_ (λhHeld=>?_)
     ·exact ⟨⟨q0,q1,q2,q3⟩,⟨r0,r1,r2,r3⟩⟩
     refine wtk (i:=0) (v:=?vvry0) rfl (Or.inl ⟨by rfl,?hhry0⟩) (by assumption) ?rrry0
     case hhry0=>(intro wz9 hSw;(try dsimp only at hSw);go_simp;try with_reducible rfl)
     go_simp
     refine wtk (i:=1) (v:=?vvry1) rfl (Or.inl ⟨by rfl,?hhry1⟩) (by assumption) ?rrry1
     case hhry1=>(intro wz9 hSw;(try dsimp only at hSw);go_simp;try with_reducible rfl)
     go_simp
     refine wtk (i:=2) (v:=?vvry2) rfl (Or.inl ⟨by rfl,?hhry2⟩) (by assumption) ?rrry2
     case hhry2=>(intro wz9 hSw;(try dsimp only at hSw);go_simp;try with_reducible rfl)
     go_simp
     refine wtk (i:=3) (v:=(.agg #[.int .u8 i1,.int .u32 n1,.string a1,.string b1])) rfl (Or.inl ⟨by rfl,?hhry3⟩) (by assumption) ?rrry3
     case hhry3=>(intro wz9 hSw;(try dsimp only at hSw);go_simp;try with_reducible rfl)
     go_simp
     refine wtk (i:=4) (v:=?vvry4) rfl (Or.inl ⟨by rfl,?hhry4⟩) (by assumption) ?rrry4
     case hhry4=>(intro wz9 hSw;(try dsimp only at hSw);go_simp;try with_reducible rfl)
     go_simp
     refine wtk (i:=5) (v:=?vvry5) rfl (Or.inl ⟨by rfl,?hhry5⟩) (by assumption) ?rrry5
     case hhry5=>(intro wz9 hSw;(try dsimp only at hSw);go_simp;try with_reducible rfl)
     go_simp
     refine wtk (i:=6) (v:=?vvry6) rfl (Or.inl ⟨by rfl,?hhry6⟩) (by assumption) ?rrry6
     case hhry6=>(intro wz9 hSw;(try dsimp only at hSw);go_simp;try with_reducible rfl)
     go_simp
     refine wtk (i:=7) (v:=(.agg #[.int .u8 i2,.int .u32 n2,.string a2,.string b2])) rfl (Or.inl ⟨by rfl,?hhry7⟩) (by assumption) ?rrry7
     case hhry7=>(intro wz9 hSw;(try dsimp only at hSw);go_simp;try with_reducible rfl)
     go_simp
     refine wtk (i:=8) (v:=(.bool false)) rfl (Or.inl ⟨by rfl,?hhry8⟩) (by assumption) ?rrry8
     case hhry8=>(intro wz9 hSw;(try dsimp only at hSw);go_simp;try with_reducible rfl)
     go_simp
     refine wpAnyH_done (by kernel_rfl) ?_ _
     go_wp2
     go_roundw
     case rel=>exact ⟨j+1,by go_num,by omega,HS2,hk.drew⟩
     case measure=>simp[intOf];omega
    ·have HN2:=Lib.hid (HN.out he)
     have hq:∀ wx,Sem.run Tryz.prog (binOp .neq 92 (.agg #[.int .u8 i1,.int .u32 n1,.string a1,.string b1]) (.agg #[.int .u8 i2,.int .u32 n2,.string a2,.string b2])) wx=.ok (.bool true) wx:=λwx=>by rw[jL1,decide_eq_false he];rfl
     clear he HS HN
     go_wp2
     refine wp_region_held_drew (S:=(λwx=>(wx.cell? ⟨b,off+j*4,none⟩=some (.int .u8 i1)∧wx.cell? ⟨b,off+j*4+1,none⟩=some (.int .u32 n1)∧wx.cell? ⟨b,off+j*4+2,none⟩=some (.string a1)∧wx.cell? ⟨b,off+j*4+3,none⟩=some (.string b1))∧(wx.cell? ⟨b9,of9+j*4,none⟩=some (.int .u8 i2)∧wx.cell? ⟨b9,of9+j*4+1,none⟩=some (.int .u32 n2)∧wx.cell? ⟨b9,of9+j*4+2,none⟩=some (.string a2)∧wx.cell? ⟨b9,of9+j*4+3,none⟩=some (.string b2)))) (by kernel_rfl) ?_ (λhHeld=>?_)
     ·exact ⟨⟨q0,q1,q2,q3⟩,⟨r0,r1,r2,r3⟩⟩
     refine wtk (i:=0) (v:=?vvrn0) rfl (Or.inl ⟨by rfl,?hhrn0⟩) (by assumption) ?rrrn0
     case hhrn0=>(intro wz9 hSw;(try dsimp only at hSw);go_simp;try with_reducible rfl)
     go_simp
     refine wtk (i:=1) (v:=?vvrn1) rfl (Or.inl ⟨by rfl,?hhrn1⟩) (by assumption) ?rrrn1
     case hhrn1=>(intro wz9 hSw;(try dsimp only at hSw);go_simp;try with_reducible rfl)
     go_simp
     refine wtk (i:=2) (v:=?vvrn2) rfl (Or.inl ⟨by rfl,?hhrn2⟩) (by assumption) ?rrrn2
     case hhrn2=>(intro wz9 hSw;(try dsimp only at hSw);go_simp;try with_reducible rfl)
     go_simp
     refine wtk (i:=3) (v:=(.agg #[.int .u8 i1,.int .u32 n1,.string a1,.string b1])) rfl (Or.inl ⟨by rfl,?hhrn3⟩) (by assumption) ?rrrn3
     case hhrn3=>(intro wz9 hSw;(try dsimp only at hSw);go_simp;try with_reducible rfl)
     go_simp
     refine wtk (i:=4) (v:=?vvrn4) rfl (Or.inl ⟨by rfl,?hhrn4⟩) (by assumption) ?rrrn4
     case hhrn4=>(intro wz9 hSw;(try dsimp only at hSw);go_simp;try with_reducible rfl)
     go_simp
     refine wtk (i:=5) (v:=?vvrn5) rfl (Or.inl ⟨by rfl,?hhrn5⟩) (by assumption) ?rrrn5
     case hhrn5=>(intro wz9 hSw;(try dsimp only at hSw);go_simp;try with_reducible rfl)
     go_simp
     refine wtk (i:=6) (v:=?vvrn6) rfl (Or.inl ⟨by rfl,?hhrn6⟩) (by assumption) ?rrrn6
     case hhrn6=>(intro wz9 hSw;(try dsimp only at hSw);go_simp;try with_reducible rfl)
     go_simp
     refine wtk (i:=7) (v:=(.agg #[.int .u8 i2,.int .u32 n2,.string a2,.string b2])) rfl (Or.inl ⟨by rfl,?hhrn7⟩) (by assumption) ?rrrn7
     case hhrn7=>(intro wz9 hSw;(try dsimp only at hSw);go_simp;try with_reducible rfl)
     go_simp
     refine wtk (i:=8) (v:=(.bool true)) rfl (Or.inl ⟨by rfl,?hhrn8⟩) (by assumption) ?rrrn8
     case hhrn8=>(intro wz9 hSw;(try dsimp only at hSw);go_simp;try with_reducible rfl)
     go_simp
     refine wpAnyH_done (by kernel_rfl) ?_ _
     go_wp2
     go_ret
     exact ⟨by rw[HN2.out];rfl,hk.drew⟩
   ·have HE:Hid (decide (L=M)=true):=Lib.hid (by
     have:=HT.out
     have h9:=HL.out;rw[List.take_of_length_le (by omega),List.take_of_length_le (by omega)]at this;exact decide_eq_true this)
    go_wp2
    go_ret
    exact ⟨by rw[HE.out];rfl,hk⟩
 ·have hne:((L.length:Int) != (M.length:Int))=true:=by simp;omega
  have HE:Hid (decide (L=M)=false):=Lib.hid (decide_eq_false λe=>hlen (by rw[e]));generalize decide (L=M)=DD at *;clear hlen
  go_enter Tryz.func71,Tryz.ntmps71
  go_wp2
  go_ret
  exact ⟨by rw[HE.out];rfl,Kept.refl _ _⟩
theorem jCb (a:Option Addr) (c:Nat) (L:List Pr) (a9:Option Addr) (c9:Nat) (M:List Pr) (w:World) (hr:Row w a (PC L)) (hr9:Row w a9 (PC M)) (hl:L.length≤100000) (hl9:M.length≤100000) :
  Calls Tryz.prog 179 #[.slice a L.length c,.slice a9 M.length c9] w λe w'=>e=.returned (.bool (decide (L=M)))∧Kept No w w':=by
 by_cases hlen:L.length=M.length
 ·have HL:=Lib.hid hlen
  have hne:((L.length:Int) != (M.length:Int))=false:=by simp;omega
  clear hlen
  go_enter Tryz.func179,Tryz.ntmps179
  go_wp2
  go_loopw [13] (λi wr=>∃ j:Nat,i=.int .i64 j∧j≤L.length∧Hid (L.take j=M.take j)∧Kept No w wr) (λi _=>L.length - (intOf i).toNat)
  case atStart=>exact ⟨0,rfl,by omega,Lib.hid rfl,Kept.refl _ _⟩
  case round =>
   obtain ⟨j,rfl,hj,HT,hk⟩:=hrel
   by_cases hlt:j<L.length
   ·have hlt9:j<M.length:=by rw[← HL.out];exact hlt
    obtain ⟨b,off,rfl,hb,q0,q1,q2,q3⟩:=(hr.keptNo hk).prop hlt;obtain ⟨b9,of9,rfl,hb9,r0,r1,r2,r3⟩:=(hr9.keptNo hk).prop hlt9;have HS:=Lib.hid (j8l HT.out hlt hlt9);have HN:=Lib.hid (jKy (L:=L) (M:=M) hlt hlt9);generalize L[j]=p at *;generalize M[j]=q at *;obtain ⟨i1,n1,a1,b1⟩:=p;obtain ⟨i2,n2,a2,b2⟩:=q;dsimp only at q0 q1 q2 q3 r0 r1 r2 r3
    by_cases he:(⟨i1,n1,a1,b1⟩:Pr)=⟨i2,n2,a2,b2⟩
    ·have HS2:=Lib.hid (HS.out he)
     have hq:∀ wx,Sem.run Tryz.prog (binOp .neq 158 (.agg #[.int .u8 i1,.int .u32 n1,.string a1,.string b1]) (.agg #[.int .u8 i2,.int .u32 n2,.string a2,.string b2])) wx=.ok (.bool false) wx:=λwx=>by rw[jL0,decide_eq_true he];rfl
     clear he HS HN
     go_wp2
     refine wp_region_held_drew (S:=(λwx=>(wx.cell? ⟨b,off+j*4,none⟩=some (.int .u8 i1)∧wx.cell? ⟨b,off+j*4+1,none⟩=some (.int .u32 n1)∧wx.cell? ⟨b,off+j*4+2,none⟩=some (.string a1)∧wx.cell? ⟨b,off+j*4+3,none⟩=some (.string b1))∧(wx.cell? ⟨b9,of9+j*4,none⟩=some (.int .u8 i2)∧wx.cell? ⟨b9,of9+j*4+1,none⟩=some (.int .u32 n2)∧wx.cell? ⟨b9,of9+j*4+2,none⟩=some (.string a2)∧wx.cell? ⟨b9,of9+j*4+3,none⟩=some (.string b2)))) (by kernel_rfl) ?_ (λhHeld=>?_)
     ·exact ⟨⟨q0,q1,q2,q3⟩,⟨r0,r1,r2,r3⟩⟩
     refine wtk (i:=0) (v:=?vvpy0) rfl (Or.inl ⟨by rfl,?hhpy0⟩) (by assumption) ?rrpy0
     case hhpy0=>(intro wz9 hSw;(try dsimp only at hSw);go_simp;try with_reducible rfl)
     go_simp
     refine wtk (i:=1) (v:=?vvpy1) rfl (Or.inl ⟨by rfl,?hhpy1⟩) (by assumption) ?rrpy1
     case hhpy1=>(intro wz9 hSw;(try dsimp only at hSw);go_simp;try with_reducible rfl)
     go_simp
     refine wtk (i:=2) (v:=?vvpy2) rfl (Or.inl ⟨by rfl,?hhpy2⟩) (by assumption) ?rrpy2
     case hhpy2=>(intro wz9 hSw;(try dsimp only at hSw);go_simp;try with_reducible rfl)
     go_simp
     refine wtk (i:=3) (v:=(.agg #[.int .u8 i1,.int .u32 n1,.string a1,.string b1])) rfl (Or.inl ⟨by rfl,?hhpy3⟩) (by assumption) ?rrpy3
     case hhpy3=>(intro wz9 hSw;(try dsimp only at hSw);go_simp;try with_reducible rfl)
     go_simp
     refine wtk (i:=4) (v:=?vvpy4) rfl (Or.inl ⟨by rfl,?hhpy4⟩) (by assumption) ?rrpy4
     case hhpy4=>(intro wz9 hSw;(try dsimp only at hSw);go_simp;try with_reducible rfl)
     go_simp
     refine wtk (i:=5) (v:=?vvpy5) rfl (Or.inl ⟨by rfl,?hhpy5⟩) (by assumption) ?rrpy5
     case hhpy5=>(intro wz9 hSw;(try dsimp only at hSw);go_simp;try with_reducible rfl)
     go_simp
     refine wtk (i:=6) (v:=?vvpy6) rfl (Or.inl ⟨by rfl,?hhpy6⟩) (by assumption) ?rrpy6
     case hhpy6=>(intro wz9 hSw;(try dsimp only at hSw);go_simp;try with_reducible rfl)
     go_simp
     refine wtk (i:=7) (v:=(.agg #[.int .u8 i2,.int .u32 n2,.string a2,.string b2])) rfl (Or.inl ⟨by rfl,?hhpy7⟩) (by assumption) ?rrpy7
     case hhpy7=>(intro wz9 hSw;(try dsimp only at hSw);go_simp;try with_reducible rfl)
     go_simp
     refine wtk (i:=8) (v:=(.bool false)) rfl (Or.inl ⟨by rfl,?hhpy8⟩) (by assumption) ?rrpy8
     case hhpy8=>(intro wz9 hSw;(try dsimp only at hSw);go_simp;try with_reducible rfl)
     go_simp
     refine wpAnyH_done (by kernel_rfl) ?_ _
     go_wp2
     go_roundw
     case rel=>exact ⟨j+1,by go_num,by omega,HS2,hk.drew⟩
     case measure=>simp[intOf];omega
    ·have HN2:=Lib.hid (HN.out he)
     have hq:∀ wx,Sem.run Tryz.prog (binOp .neq 158 (.agg #[.int .u8 i1,.int .u32 n1,.string a1,.string b1]) (.agg #[.int .u8 i2,.int .u32 n2,.string a2,.string b2])) wx=.ok (.bool true) wx:=λwx=>by rw[jL0,decide_eq_false he];rfl
     clear he HS HN
     go_wp2
     refine wp_region_held_drew (S:=(λwx=>(wx.cell? ⟨b,off+j*4,none⟩=some (.int .u8 i1)∧wx.cell? ⟨b,off+j*4+1,none⟩=some (.int .u32 n1)∧wx.cell? ⟨b,off+j*4+2,none⟩=some (.string a1)∧wx.cell? ⟨b,off+j*4+3,none⟩=some (.string b1))∧(wx.cell? ⟨b9,of9+j*4,none⟩=some (.int .u8 i2)∧wx.cell? ⟨b9,of9+j*4+1,none⟩=some (.int .u32 n2)∧wx.cell? ⟨b9,of9+j*4+2,none⟩=some (.string a2)∧wx.cell? ⟨b9,of9+j*4+3,none⟩=some (.string b2)))) (by kernel_rfl) ?_ (λhHeld=>?_)
     ·exact ⟨⟨q0,q1,q2,q3⟩,⟨r0,r1,r2,r3⟩⟩
     refine wtk (i:=0) (v:=?vvpn0) rfl (Or.inl ⟨by rfl,?hhpn0⟩) (by assumption) ?rrpn0
     case hhpn0=>(intro wz9 hSw;(try dsimp only at hSw);go_simp;try with_reducible rfl)
     go_simp
     refine wtk (i:=1) (v:=?vvpn1) rfl (Or.inl ⟨by rfl,?hhpn1⟩) (by assumption) ?rrpn1
     case hhpn1=>(intro wz9 hSw;(try dsimp only at hSw);go_simp;try with_reducible rfl)
     go_simp
     refine wtk (i:=2) (v:=?vvpn2) rfl (Or.inl ⟨by rfl,?hhpn2⟩) (by assumption) ?rrpn2
     case hhpn2=>(intro wz9 hSw;(try dsimp only at hSw);go_simp;try with_reducible rfl)
     go_simp
     refine wtk (i:=3) (v:=(.agg #[.int .u8 i1,.int .u32 n1,.string a1,.string b1])) rfl (Or.inl ⟨by rfl,?hhpn3⟩) (by assumption) ?rrpn3
     case hhpn3=>(intro wz9 hSw;(try dsimp only at hSw);go_simp;try with_reducible rfl)
     go_simp
     refine wtk (i:=4) (v:=?vvpn4) rfl (Or.inl ⟨by rfl,?hhpn4⟩) (by assumption) ?rrpn4
     case hhpn4=>(intro wz9 hSw;(try dsimp only at hSw);go_simp;try with_reducible rfl)
     go_simp
     refine wtk (i:=5) (v:=?vvpn5) rfl (Or.inl ⟨by rfl,?hhpn5⟩) (by assumption) ?rrpn5
     case hhpn5=>(intro wz9 hSw;(try dsimp only at hSw);go_simp;try with_reducible rfl)
     go_simp
     refine wtk (i:=6) (v:=?vvpn6) rfl (Or.inl ⟨by rfl,?hhpn6⟩) (by assumption) ?rrpn6
     case hhpn6=>(intro wz9 hSw;(try dsimp only at hSw);go_simp;try with_reducible rfl)
     go_simp
     refine wtk (i:=7) (v:=(.agg #[.int .u8 i2,.int .u32 n2,.string a2,.string b2])) rfl (Or.inl ⟨by rfl,?hhpn7⟩) (by assumption) ?rrpn7
     case hhpn7=>(intro wz9 hSw;(try dsimp only at hSw);go_simp;try with_reducible rfl)
     go_simp
     refine wtk (i:=8) (v:=(.bool true)) rfl (Or.inl ⟨by rfl,?hhpn8⟩) (by assumption) ?rrpn8
     case hhpn8=>(intro wz9 hSw;(try dsimp only at hSw);go_simp;try with_reducible rfl)
     go_simp
     refine wpAnyH_done (by kernel_rfl) ?_ _
     go_wp2
     go_ret
     exact ⟨by rw[HN2.out];rfl,hk.drew⟩
   ·have HE:Hid (decide (L=M)=true):=Lib.hid (by
     have:=HT.out
     have h9:=HL.out;rw[List.take_of_length_le (by omega),List.take_of_length_le (by omega)]at this;exact decide_eq_true this)
    go_wp2
    go_ret
    exact ⟨by rw[HE.out];rfl,hk⟩
 ·have hne:((L.length:Int) != (M.length:Int))=true:=by simp;omega
  have HE:Hid (decide (L=M)=false):=Lib.hid (decide_eq_false λe=>hlen (by rw[e]));generalize decide (L=M)=DD at *;clear hlen
  go_enter Tryz.func179,Tryz.ntmps179
  go_wp2
  go_ret
  exact ⟨by rw[HE.out];rfl,Kept.refl _ _⟩
theorem j8b (a:Option Addr) (c:Nat) (L:List Pr) (a9:Option Addr) (c9:Nat) (M:List Pr) (w:World) (hr:Row w a (PC L)) (hr9:Row w a9 (PC M)) (hl:L.length≤100000) (hl9:M.length≤100000) :
  Calls Tryz.prog 152 #[.slice a L.length c,.slice a9 M.length c9] w λe w'=>e=.returned (.bool (decide (L=M)))∧Kept No w w':=by
 have HE:=Lib.hid (λwx h1 h2=>jCb a c L a9 c9 M wx h1 h2 hl hl9);generalize decide (L=M)=DD at *
 go_enter Tryz.func152,Tryz.ntmps152
 go_wp2_with (go_at_call 179;refine (HE.out _ hr hr9).mono ?_;rintro e w1 ⟨rfl,hk⟩)
 go_ret
 exact ⟨rfl,hk⟩
theorem j8p (n:Nat):(Builtin.zeroCells (Value.int .u8 0).cells n).size=n:=by
 simp[Builtin.zeroCells,Value.cells]
theorem jH1 (g c:Nat) (l:List UInt8) (n:Nat) (base:Nat) (w:World) (hown:w.ownsRow base 5 1 (.slice (some ⟨g,0,none⟩) l.length c) l.length (B8 l)) (hl:l.length≤1000000000) (hn:n≤1000000000) (hb:base≤w.heap.size) :
  Calls Tryz.prog 177 #[.slice (some ⟨g,0,none⟩) l.length c,.int .i64 n] w λe w' =>
   ∃ g' c',e=.returned (.slice (some ⟨g',0,none⟩) l.length c')∧w'.ownsRow base 5 1 (.slice (some ⟨g',0,none⟩) l.length c') l.length (B8 l)∧Kept No w w':=by
 obtain ⟨i0,hi,hz0,hz1,hz2⟩:=info_parts qi;have hown':=hown;obtain ⟨_,h|⟨g9,cap,cur,hv,hg,hcur,hnc,hcm,hcs,hct⟩⟩:=hown'
 ·exact absurd h.1 (by simp)
 injection hv with e1 e2 e3;injection e1 with e1;injection e1 with e1;subst e1 e3;have hlc:l.length≤c:=hnc;unfold maxLen at hcm
 by_cases hroom:l.length+n≤c
 ·have h2:wrap64 ((c:Int) - (l.length:Int))=(c:Int) - (l.length:Int):=by unfold wrap64;omega
  have h3:wrap64 ((n:Int) - ((c:Int) - (l.length:Int)))=(n:Int) - ((c:Int) - (l.length:Int)):=by unfold wrap64;omega
  have h4:¬ ((n:Int) - ((c:Int) - (l.length:Int)) > 0):=by omega
  clear hct
  go_enter Tryz.func177,Tryz.ntmps177
  go_wp2
  go_ret
  exact ⟨g,c,rfl,hown,Kept.refl _ _⟩
 ·obtain ⟨k,hk⟩:∃ k,k=l.length+n - c:=⟨_,rfl⟩
  have hmk:=λty=>Lib.run_append_grow_zeros (P:=Tryz.prog) w 25 3 ty 5 i0 _ .i64 .i64 Tryz.underlying25 Tryz.underlying3 hi hz0 (some ⟨g,0,none⟩) c c cur.toList
   (by
    rw[hz1]
    exact run_firstCells_some w.drew 1 c ⟨g,0,none⟩ c c cur.toList (by rw[Array.length_toList,hcs]) (λj v hj=>by
     rw[Addr.add_lit];show w.cell? _=_;have hB:Blk w g 5 cur:=hcur;rw[hB.cell];simpa using hj)) k (by omega) (by rw[hz1];decide) (by omega) (by omega) (by rw[hz2];omega) (by rw[hz2];exact growslice_fits (by omega) (by omega))
  have e2:c+k=l.length+n:=by omega
  rw[e2]at hmk;have hG:=grownCap_ge w (l.length+n) c 5;have hG2:=grownCap_le_maxLen w (l.length+n) c 5 (by unfold maxLen;omega);generalize grownCap w (l.length+n) c 5=G at *
  have hown2:(w.drew.alloc (.cells (cur.toList.toArray++Builtin.zeroCells (Value.int .u8 0).cells k++Builtin.zeroCells (Value.int .u8 0).cells (G - (l.length+n))) 5)).ownsRow base 5 1 (.slice (some ⟨w.heap.size,0,none⟩) l.length G) l.length (B8 l):=by
   refine ⟨by simp,.inr ⟨w.heap.size,G,_,rfl,hb,Blk.new w.drew _ _,by omega,hG2,?_,?_⟩⟩
   ·rw[Array.size_append,Array.size_append,j8p,j8p]
    simp only[List.size_toArray,Array.length_toList];omega
   ·rw[Array.toList_append,Array.toList_append,List.append_assoc,List.take_append_of_le_length (by simp;omega)]
    simpa using hct
  have hkk:Kept No w (w.drew.alloc (.cells (cur.toList.toArray++Builtin.zeroCells (Value.int .u8 0).cells k++Builtin.zeroCells (Value.int .u8 0).cells (G - (l.length+n))) 5)):=(Kept.refl No w).drew.alloc _;generalize w.drew.alloc (.cells (cur.toList.toArray++Builtin.zeroCells (Value.int .u8 0).cells k++Builtin.zeroCells (Value.int .u8 0).cells (G - (l.length+n))) 5)=w2 at *;have h2:wrap64 ((c:Int) - (l.length:Int))=(c:Int) - (l.length:Int):=by unfold wrap64;omega
  have h3:wrap64 ((n:Int) - ((c:Int) - (l.length:Int)))=(n:Int) - ((c:Int) - (l.length:Int)):=by unfold wrap64;omega
  have h4:((n:Int) - ((c:Int) - (l.length:Int)) > 0):=by omega
  have h5:((k:Nat):Int)=(n:Int) - ((c:Int) - (l.length:Int)):=by omega
  rw[h5]at hmk;unfold maxLen at hG2;have HM:=Lib.hid hmk;have HO:=Lib.hid hown2;clear hmk hown2 hct hcs hcur hown e2 h5 hk
  go_enter Tryz.func177,Tryz.ntmps177
  go_wp2_with (at_builtin;refine Lib.wpList_append_run _ rfl _ _ _ _ rfl _ _ rfl rfl _ _ (HM.out _) ?_)
  go_ret
  exact ⟨w.heap.size,G,rfl,HO.out,hkk⟩
def Pr.ok (p:Pr):Bool:=xu p.id p.n p.a p.b
structure Pr.wf' (p:Pr):Prop where
 hid:p.id<256
 hn:p.n<4294967296
 ha:p.a.size≤9223372036854
 hb:p.b.size≤9223372036854
theorem zm {a:ByteArray} (h:a.toList.isEmpty=true):a.size=0:=by
 rw[Lib.toList_data]at h
 have:a.data.toList=[]:=by simpa using h
 rw[← qQ,this];rfl
theorem j2x {n m:Nat} {a b:ByteArray} (h:j1a n m a b=true):n≤m∧a.size=0∧b.size=0:=by
 unfold j1a xq at h;rw[aE9,aE9]at h;exact ⟨of_decide_eq_true h.1,zm h.2.1,zm h.2.2⟩
theorem j5s {id n:Nat} {a b:ByteArray} (h8:id<256) (hn:n<4294967296) (h:xu id n a b=true):jDw id n a b∧(qD id=4→n≤268435455):=by
 have ht:=zn id
 have key:1≤qD id∧a.size≤65535∧b.size≤65535∧(qD id=4→n≤268435455):=by
  unfold xu at h;generalize qD id=t at *;rcases (show t=0∨t=1∨t=2∨t=3∨t=4∨t=5∨t=6∨t=7 from by omega) with rfl|rfl|rfl|rfl|rfl|rfl|rfl|rfl
  ·exact absurd h (by simp[qa])
  ·have:=j2x (m:=255) h;omega
  ·have:=j2x (m:=65535) h;omega
  ·have:=j2x (m:=4294967295) h;omega
  ·have:=j2x (m:=268435455) h;omega
  ·have h':(decide (n=0)&&(q7 a&&b.toList.isEmpty))=true:=h
   rw[aE9,aE9]at h';have h1:=vU h'.2.1;have h2:=zm h'.2.2;omega
  ·have h':(decide (n=0)&&(decide (a.size≤65535)&&b.toList.isEmpty))=true:=h
   rw[aE9,aE9]at h';have h1:=of_decide_eq_true h'.2.1;have h2:=zm h'.2.2;omega
  ·have h':(decide (n=0)&&(q7 a&&q7 b))=true:=h
   rw[aE9,aE9]at h';have h1:=vU h'.2.1;have h2:=vU h'.2.2;omega
 exact ⟨⟨h8,hn,key.2.1,key.2.2.1,key.1⟩,key.2.2.2⟩
theorem jIb {n:Nat} (h:n≤268435455):1≤(ze n).length:=by
 unfold ze;rw[if_pos h,j3n]
 split<;>simp
theorem jI6 {id n:Nat} {a b:ByteArray} (h:jDw id n a b) (h4:qD id=4→n≤268435455):2≤szP id n a b∧szP id n a b≤131075:=by
 have h1:=h.ha;have h2:=h.hb;have h3:=h.ht;have h5:=zn id;have h6:=xY n;have h7:=λe=>jIb (h4 e)
 unfold szP;generalize qD id=t at *;rcases (show t=1∨t=2∨t=3∨t=4∨t=5∨t=6∨t=7 from by omega) with rfl|rfl|rfl|rfl|rfl|rfl|rfl
 all_goals simp only[Nat.reduceEqDiff,if_true,if_false]
 all_goals first|omega|(have:=h7 rfl;omega)
theorem j46 {id n:Nat} {a b:ByteArray} (h:jDw id n a b):(j5l id n a b).length=szP id n a b:=by
 have h3:=h.ht;have h5:=zn id;unfold szP j5l;generalize qD id=t at *;rcases (show t=1∨t=2∨t=3∨t=4∨t=5∨t=6∨t=7 from by omega) with rfl|rfl|rfl|rfl|rfl|rfl|rfl
 all_goals simp only[Nat.reduceEqDiff,if_true,if_false,j9w,jBl,j9x,j3b,j39,List.length_cons,List.length_nil]
 all_goals omega
def vK:List Pr→Nat→Option Nat
 | [],n=>some n
 | p :: t,n=>if p.ok then (if n+p.size≤268435455 then vK t (n+p.size) else none) else none
def jNh (r:Option Nat) (w:World) (e:Ending) (w':World):Prop :=
 (e=match r with|some n=>.returned (.tuple #[.int .i64 (n:Nat),.bool true])|none=>.returned (.tuple #[.int .i64 0,.bool false]))∧Kept No w w'
theorem j3u {L:List Pr} {j:Nat} (h:j<L.length):L.drop j=L[j] :: L.drop (j+1):=List.drop_eq_getElem_cons h
theorem j6z (a:Option Addr) (c:Nat) (L:List Pr) (w:World) (hr:Row w a (PC L)) (hl:L.length≤100000) (hw:∀ p∈L,p.wf') (hT:Tabs w) :
  Calls Tryz.prog 161 #[.slice a L.length c] w (jNh (vK L 0) w):=by
 have HW:=Lib.hid hw;generalize hR:vK L 0=R;have HR:=Lib.hid hR;clear hw hR
 go_enter Tryz.func161,Tryz.ntmps161
 go_wp2
 go_loopw [4,9] (λs i wr=>∃ j n:Nat,i=.int .i64 j∧s=.int .i64 n∧n≤268435455∧j≤L.length∧Hid (vK (L.drop j) n=R)∧Kept No w wr) (λ_ i _=>L.length - (intOf i).toNat)
 case atStart=>exact ⟨0,0,rfl,rfl,by omega,by omega,Lib.hid (by rw[List.drop_zero];exact HR.out),Kept.refl _ _⟩
 case round =>
  obtain ⟨j,n,rfl,rfl,hn,hj,HG,hk⟩:=hrel
  by_cases hlt:j<L.length
  ·obtain ⟨b,off,rfl,hb,q0,q1,q2,q3⟩:=(hr.keptNo hk).prop hlt
   have HD:=Lib.hid (j3u hlt);have hp:=HW.out _ (List.getElem_mem hlt);generalize L[j]=p at *;obtain ⟨id,pn,A,B⟩:=p;obtain ⟨p1,p2,p3,p4⟩:=hp;dsimp only at q0 q1 q2 q3 p1 p2 p3 p4;have cR:=λwx hT=>j76 id pn A B wx hT p1 p2 (by omega) (by omega)
   have hB0:=Lib.hid (Blk.new wr 158 #[.int .u8 id,.int .u32 pn,.string A,.string B]);have hTr:=Lib.hid ((hT.kept hk).kept ((Kept.refl No wr).alloc (.cells #[.int .u8 id,.int .u32 pn,.string A,.string B] 158)));rcases hok:xu id pn A B with _|_
   ·rw[hok]at cR
    have HC:=Lib.hid cR;have HE:Hid (R=none):=Lib.hid (by rw[← HG.out,HD.out,vK];simp[Pr.ok,hok]);clear cR hok
    go_wp2_with (go_at_call 189;refine (HC.out _ hTr.out).mono ?_;rintro e w2 ⟨rfl,hk2⟩)
    go_ret2
    exact ⟨by rw[HE.out];rfl,(hk.alloc _).trans hk2⟩
   ·rw[hok]at cR
    have HC:=Lib.hid cR;obtain ⟨hf,hf4⟩:=j5s p1 p2 hok;have hsz:=jI6 hf hf4;have cS:=λwx=>jHz id pn A B wx p2 p3 p4
    have HG2:Hid ((if n+szP id pn A B≤268435455 then vK (L.drop (j+1)) (n+szP id pn A B) else none)=R):=Lib.hid (by rw[← HG.out,HD.out,vK];simp only[Pr.ok,Pr.size,hok];rfl);generalize szP id pn A B=z at *;have HS:=Lib.hid cS;clear cR cS hok hf hf4
    by_cases hbig:n+z≤268435455
    ·have hbI:decide ((268435455:Int)<(n:Int)+z)=false:=by simp;omega
     have HG3:Hid (vK (L.drop (j+1)) (n+z)=R):=Lib.hid (by rw[← HG2.out,if_pos hbig])
     go_wp2_with (first
      | (go_at_call 189;refine (HC.out _ hTr.out).mono ?_;rintro e w2 ⟨rfl,hk2⟩;have s0:=(hB0.out.kept hk2 (λf=>f)).cell 0;have s1:=(hB0.out.kept hk2 (λf=>f)).cell 1;have s2:=(hB0.out.kept hk2 (λf=>f)).cell 2;have s3:=(hB0.out.kept hk2 (λf=>f)).cell 3;simp at s0 s1 s2 s3)
      | (go_at_call 190;refine (HS.out _).mono ?_;rintro e w3 ⟨rfl,hk3⟩))
     go_roundw
     case rel=>exact ⟨j+1,n+z,by go_num,by go_num,hbig,by omega,HG3,((hk.alloc _).trans hk2).trans hk3⟩
     case measure=>simp[intOf];omega
    ·have hbI:(268435455:Int)<(n:Int)+z:=by omega
     have HE:Hid (R=none):=Lib.hid (by rw[← HG2.out,if_neg hbig])
     go_wp2_with (first
      | (go_at_call 189;refine (HC.out _ hTr.out).mono ?_;rintro e w2 ⟨rfl,hk2⟩;have s0:=(hB0.out.kept hk2 (λf=>f)).cell 0;have s1:=(hB0.out.kept hk2 (λf=>f)).cell 1;have s2:=(hB0.out.kept hk2 (λf=>f)).cell 2;have s3:=(hB0.out.kept hk2 (λf=>f)).cell 3;simp at s0 s1 s2 s3)
      | (go_at_call 190;refine (HS.out _).mono ?_;rintro e w3 ⟨rfl,hk3⟩))
     go_ret2
     exact ⟨by rw[HE.out];rfl,((hk.alloc _).trans hk2).trans hk3⟩
  ·have HE:Hid (R=some n):=Lib.hid (by rw[← HG.out,List.drop_of_length_le (by omega)];rfl)
   go_wp2
   go_ret2
   exact ⟨by rw[HE.out];rfl,hk⟩
def qe (L:List Pr):List UInt8:=L.flatMap Pr.lay
theorem j2d (L:List Pr) (p:Pr):qe (L++[p])=qe L++p.lay:=by simp[qe]
theorem jAn (L:List Pr) (j:Nat):(qe (L.take j)).length≤(qe L).length:=by
 have h:qe L=qe (L.take j)++qe (L.drop j):=by
  unfold qe;rw[← List.flatMap_append,List.take_append_drop]
 rw[h,List.length_append];omega
theorem Pr.fits {p:Pr} (h:p.wf') (hk:p.ok=true):jDw p.id p.n p.a p.b:=(j5s h.hid h.hn hk).1
theorem zW:∀ (L:List Pr) (m n:Nat),(∀ p∈L,p.wf')→vK L m=some n→m≤268435455→(∀ p∈L,p.ok=true)∧m+(qe L).length=n∧n≤268435455
 | [],m,n,_,h,hm=>by
  injection h with h;subst h;exact ⟨by simp,by simp[qe],hm⟩
 | p :: t,m,n,hw,h,hm=>by
  rw[vK]at h
  split at h
  ·rename_i hk
   split at h
   ·rename_i hb
    obtain ⟨h1,h2,h3⟩:=zW t _ n (λq hq=>hw q (List.mem_cons_of_mem _ hq)) h hb;have hl:p.lay.length=p.size:=j46 (Pr.fits (hw p (by simp)) hk);refine ⟨λq hq=>?_,?_,h3⟩
    ·rcases List.mem_cons.1 hq with rfl|hq
     ·exact hk
     ·exact h1 q hq
    ·rw[show qe (p :: t)=p.lay++qe t from rfl,List.length_append,hl];omega
   ·cases h
  ·cases h
theorem j9d {w w':World} {v:Value} {l:List UInt8} {n:Nat} {xs:List Value} (h:w'.ownsRow w.heap.size 5 1 v n xs) (hn:n=l.length) (hx:xs=B8 l) (hk:Kept No w w'):OwnB w l (.returned v) w':=by
 subst hn hx;rcases h.2 with ⟨hv,h0⟩|⟨g,cap,cur,hv,_⟩
 ·subst hv
  exact ⟨none,0,by rw[h0],by rw[h0]at h ⊢;exact h,hk⟩
 ·subst hv
  exact ⟨_,_,rfl,h,hk⟩
def xT (l:List UInt8) (L:List Pr):List UInt8:=match vK L 0 with|some n=>vf l n++qe L|none=>l
def j8h (L:List Pr):Nat:=match vK L 0 with|some n=>(ze n).length+n|none=>0
theorem jJx (a:Option Addr) (c:Nat) (l:List UInt8) (a9:Option Addr) (c9:Nat) (L:List Pr) (w:World) (hr:Row w a (B8 l)) (hn:a=none→l.length=0∧c=0) (hl:l.length≤1000) (hr9:Row w a9 (PC L)) (hl9:L.length≤100000) (hw:∀ p∈L,p.wf') (hT:Tabs w) :
  Calls Tryz.prog 144 #[.slice a l.length c,.slice a9 L.length c9] w (OwnB w (xT l L)):=by
 obtain ⟨i0,hi,hz0,hz1,hz2⟩:=info_parts qi;have cL:=j6z a9 c9 L w hr9 hl9 hw hT;unfold xT;rcases hG:vK L 0 with _|n
 ·dsimp only
  rw[hG]at cL;have HC:=Lib.hid cL;have HB:=Lib.hid (λwx h=>jBo a c l wx h hn (by omega));clear cL hG
  go_enter Tryz.func144,Tryz.ntmps144
  go_wp2_with (first
   | (go_at_call 161;refine HC.out.mono ?_;rintro e w1 ⟨rfl,hk1⟩)
   | (go_at_call 91;refine (HB.out _ (hr.keptNo hk1)).mono ?_;rintro e w2 ⟨a2,c2,rfl,hown2,hk2⟩))
  go_ret
  exact OwnB.from ⟨a2,c2,rfl,hown2,hk2⟩ hk1
 ·dsimp only
  rw[hG]at cL;have HC:=Lib.hid cL;obtain ⟨hok,hlen,hn9⟩:=zW L 0 n hw hG (by omega);have hvl:=xY n;have hal:=j3b l n;have HOK:=Lib.hid hok;have HW:=Lib.hid hw;have HDL:=Lib.hid (λj=>jAn L j);have HLN:=Lib.hid hlen;clear cL hG hok hw hlen;have hap:(vf l n).length≤1004:=by omega
  have HV:=Lib.hid (λwx h=>jOx a c l n wx (by omega) h hn (by omega));have HAL:=Lib.hid hal;clear hal hvl;generalize vf l n=l1 at *
  go_enter Tryz.func144,Tryz.ntmps144
  go_wp2_with (first
   | (go_at_call 161;refine HC.out.mono ?_;rintro e w1 ⟨rfl,hk1⟩)
   | (go_at_call 101;refine (HV.out _ (hr.keptNo hk1)).mono ?_;rintro e w2 ⟨g2,c2,rfl,hg2,hown2,hk2⟩)
   | (go_at_call 177;refine (jH1 g2 c2 l1 n w.heap.size _ (xM hown2 hk1.size) (by omega) (by omega) (by have:=hk1.size;have:=hk2.size;omega)).mono ?_;rintro e w3 ⟨g3,c3,rfl,hown3,hk3⟩))
  have hkw:=(hk1.trans hk2).trans hk3;clear HC HV hk1 hk2 hk3 hown2
  go_loopw [7,27] (λv i wr=>∃ (j:Nat) (d:List UInt8),i=.int .i64 j∧j≤L.length∧Hid (d=qe (L.take j))∧d.length≤n∧wr.ownsRow w.heap.size 5 1 v (l1++d).length (B8 (l1++d))∧Kept No w wr) (λ_ i _=>L.length - (intOf i).toNat)
  case atStart=>exact ⟨0,[],rfl,by omega,Lib.hid rfl,by simp,by simpa using hown3,hkw⟩
  case round =>
   obtain ⟨j,d,rfl,hj,HD,hdn,hown,hk⟩:=hrel;have hsz:=hk.size
   by_cases hlt:j<L.length
   ·obtain ⟨b,off,rfl,hb,q0,q1,q2,q3⟩:=(hr9.keptNo hk).prop hlt
    have HT2:=Lib.hid (j4i hlt);have hmem:=List.getElem_mem hlt;have hf:=Pr.fits (HW.out _ hmem) (HOK.out _ hmem);have hlj:=HDL.out (j+1);rw[HT2.out,j2d,List.length_append,← HD.out]at hlj;have hl9':=HLN.out;have HN:=Lib.hid (show d++(L[j]).lay=qe (L.take (j+1)) by rw[HT2.out,j2d,← HD.out]);have hdj:d.length+(L[j]).lay.length≤n:=by omega
    clear hlj hl9' hmem;generalize L[j]=p at *;obtain ⟨id,pn,A,B⟩:=p;dsimp only at q0 q1 q2 q3 hf;have HL:=Lib.hid (λwx=>jJn id pn A B wx hf);rw[show (⟨id,pn,A,B⟩:Pr).lay=j5l id pn A B from rfl]at HN hdj;generalize j5l id pn A B=y at *;clear hf
    go_wp2_with (first
     | (go_at_call 178;refine (HL.out _).mono ?_;rintro e w4 ⟨g4,c4,rfl,hg4,hown4,hk4⟩;have hown5:=jW (jW hown ((Kept.refl No wr).alloc _)) hk4)
     | (at_builtin;refine wpList_append_own _ rfl _ _ _ rfl w.heap.size 5 i0 _ 1 1 Tryz.underlying25 hi hz0 hz1 hz2 rfl (by decide) _ _ _ rfl hown5 ⟨g4,0,none⟩ y.length c4 (B8 y) rfl (by simp) ?c1 (v8 _) ?c2 ?c3 ?c4 ?_;rotate_right;intro v6 w6 hown6 hg6 _))
    case c1=>exact (Row.of_own hown4).at_add _ rfl
    case c2=>unfold maxLen;simp;omega
    case c3=>simp;omega
    case c4=>have:=hk4.size;simp at this;omega
    go_roundw
    case rel=>exact ⟨j+1,d++y,by go_num,by omega,Lib.hid HN.out,by rw[List.length_append];exact hdj,by simpa [jq,List.append_assoc,Nat.add_assoc] using hown6,((hk.alloc _).trans hk4).grown hg6 (qq hown5)⟩
    case measure=>simp[intOf];omega
   ·have HE:Hid (d=qe L):=Lib.hid (by rw[HD.out,List.take_of_length_le (by omega)])
    go_wp2
    go_ret
    exact j9d hown (by rw[HE.out]) (by rw[HE.out]) hk
theorem jEs (a9:Option Addr) (c9:Nat) (L:List Pr) (w:World) (hr9:Row w a9 (PC L)) (hl9:L.length≤100000) (hw:∀ p∈L,p.wf') (hT:Tabs w) :
  Calls Tryz.prog 118 #[.slice a9 L.length c9] w λe w'=>e=.returned (.int .i64 (j8h L))∧Kept No w w':=by
 have cL:=j6z a9 c9 L w hr9 hl9 hw hT;unfold j8h;rcases hG:vK L 0 with _|n
 ·dsimp only
  rw[hG]at cL;have HC:=Lib.hid cL;clear cL hG
  go_enter Tryz.func118,Tryz.ntmps118
  go_wp2_with (go_at_call 161;refine HC.out.mono ?_;rintro e w1 ⟨rfl,hk1⟩)
  go_ret
  exact ⟨rfl,hk1⟩
 ·dsimp only
  rw[hG]at cL;have HC:=Lib.hid cL;obtain ⟨hok,hlen,hn9⟩:=zW L 0 n hw hG (by omega);have hv:=j56 n (by omega);have hvl:=xY n;generalize (ze n).length=z at *;have HV:=Lib.hid hv;clear cL hG hok hw hlen hv
  go_enter Tryz.func118,Tryz.ntmps118
  go_wp2_with (first
   | (go_at_call 161;refine HC.out.mono ?_;rintro e w1 ⟨rfl,hk1⟩)
   | (go_at_call 58;refine (HV.out _).mono ?_;rintro e w2 ⟨rfl,rfl⟩))
  go_ret
  exact ⟨by simp,hk1⟩
theorem j2w:∀ (L:List Pr) (m:Nat),(∀ p∈L,p.wf')→(∀ p∈L,p.ok=true)→m+(qe L).length≤268435455→vK L m=some (m+(qe L).length)
 | [],m,_,_,_=>rfl
 | p :: t,m,hw,hk,h=>by
  have hl:p.lay.length=p.size:=j46 (Pr.fits (hw p (by simp)) (hk p (by simp)));have e:(qe (p :: t)).length=p.size+(qe t).length:=by rw[show qe (p :: t)=p.lay++qe t from rfl,List.length_append,hl]
  rw[e]at h ⊢;rw[vK,if_pos (hk p (by simp)),if_pos (by omega),j2w t _ (λq hq=>hw q (List.mem_cons_of_mem _ hq)) (λq hq=>hk q (List.mem_cons_of_mem _ hq)) (by omega)]
  congr 1
  omega
theorem jEk {L:List Pr} {p:Pr} (hw:∀ p∈L,p.wf') (hp:p∈L) (h:p.ok=false):vK L 0=none:=by
 rcases hG:vK L 0 with _|n
 ·rfl
 ·have:=(zW L 0 n hw hG (by omega)).1 p hp
  rw[h]at this;cases this
theorem jMu {p:Pr} (hw:p.wf') (h:p.ok=true):p.lay.length≤131075:=by
 rw[show p.lay.length=p.size from j46 (Pr.fits hw h)];obtain ⟨h1,h2⟩:=j5s hw.hid hw.hn h;exact (jI6 h1 h2).2
theorem j1b {w:World} {base n size:Nat} {e:TypeId} {v:Value} {xs:List Value} (h:w.ownsRow base e size v n xs):∃ a c,v=.slice a n c∧Row w a xs∧(a=none→n=0∧c=0):=by
 rcases h.2 with ⟨hv,h0⟩|⟨g,cap,cur,hv,_⟩
 ·subst hv h0
  exact ⟨none,0,rfl,(jV h).1,λ_=>⟨rfl,rfl⟩⟩
 ·subst hv
  exact ⟨_,_,rfl,(jV h).1,λh=>by cases h⟩
def jBi (l:List UInt8) (L:List Pr) (w:World) (e:Ending) (w':World):Prop :=
 ∃ a' c',e=.returned (.tuple #[.slice a' (xT l L).length c',.bool (vK L 0).isSome])∧Row w' a' (B8 (xT l L))∧(a'=none→c'=0)∧Kept No w w'
theorem jK9 {l:List UInt8} {L:List Pr} {w w':World} {a:Option Addr} {c:Nat} (h:vK L 0=none) (hr:Row w' a (B8 l)) (hn:a=none→c=0) (hk:Kept No w w'):jBi l L w (.returned (.tuple #[.slice a l.length c,.bool false])) w':=by
 have e:xT l L=l:=by unfold xT;rw[h]
 exact ⟨a,c,by rw[e,h];rfl,by rw[e];exact hr,hn,hk⟩
theorem jHx {l:List UInt8} {L:List Pr} {n m:Nat} {w w':World} {v:Value} {xs:List Value} (h:vK L 0=some n) (hown:w'.ownsRow w.heap.size 5 1 v m xs) (hm:m=(vf l n++qe L).length) (hx:xs=B8 (vf l n++qe L)) (hk:Kept No w w'):jBi l L w (.returned (.tuple #[v,.bool true])) w':=by
 have e:xT l L=vf l n++qe L:=by unfold xT;rw[h]
 obtain ⟨a,c,h1,h2,h3⟩:=j9d hown hm hx hk;injection h1 with h1;subst h1;obtain ⟨q1,q2⟩:=jV h2;exact ⟨a,c,by rw[e,h];rfl,by rw[e];exact q1,λh=>(q2 h).2,hk⟩
def jFb (l:List UInt8) (L:List Pr) (w:World) (e:Ending) (w':World):Prop :=
 jBi l L w e w'∧∀ n,vK L 0=some n→∃ a c,e=.returned (.tuple #[.slice a (xT l L).length c,.bool true])∧w'.ownsRow w.heap.size 5 1 (.slice a (xT l L).length c) (xT l L).length (B8 (xT l L))∧Kept No w w'
theorem jHu {l:List UInt8} {L:List Pr} {w w':World} {a:Option Addr} {c:Nat} (h:vK L 0=none) (hr:Row w' a (B8 l)) (hn:a=none→c=0) (hk:Kept No w w'):jFb l L w (.returned (.tuple #[.slice a l.length c,.bool false])) w' :=
 ⟨jK9 h hr hn hk,λn h2=>by rw[h]at h2;cases h2⟩
theorem jEt {l:List UInt8} {L:List Pr} {n m:Nat} {w w':World} {v:Value} {xs:List Value} (h:vK L 0=some n) (hown:w'.ownsRow w.heap.size 5 1 v m xs) (hm:m=(vf l n++qe L).length) (hx:xs=B8 (vf l n++qe L)) (hk:Kept No w w'):jFb l L w (.returned (.tuple #[v,.bool true])) w':=by
 refine ⟨jHx h hown hm hx hk,λn2 h2=>?_⟩;have e:xT l L=vf l n++qe L:=by unfold xT;rw[h]
 obtain ⟨a,c,h1,h2,h3⟩:=j9d hown hm hx hk;injection h1 with h1;subst h1;exact ⟨a,c,by rw[e],by rw[e];exact h2,hk⟩
theorem jHw (a:Option Addr) (c:Nat) (l:List UInt8) (a9:Option Addr) (c9:Nat) (L:List Pr) (w:World) (hr:Row w a (B8 l)) (hn:a=none→l.length=0∧c=0) (hl:l.length≤100000) (hr9:Row w a9 (PC L)) (hl9:L.length≤1000) (hw:∀ p∈L,p.wf') :
  Calls Tryz.prog 119 #[.slice a l.length c,.slice a9 L.length c9] w (jFb l L w):=by
 obtain ⟨i0,hi,hz0,hz1,hz2⟩:=info_parts qi;have HW:=Lib.hid hw;clear hw
 go_enter Tryz.func119,Tryz.ntmps119
 go_wp2
 go_loopw [6,7] (λv i wr=>∃ (j:Nat) (d:List UInt8),i=.int .i64 j∧j≤L.length∧Hid (d=qe (L.take j))∧Hid (∀ p∈L.take j,p.ok=true)∧d.length≤131075*j∧wr.ownsRow w.heap.size 5 1 v d.length (B8 d)∧Kept No w wr) (λ_ i _=>L.length - (intOf i).toNat)
 case atStart=>exact ⟨0,[],rfl,by omega,Lib.hid rfl,Lib.hid (by simp),by simp,World.ownsRow_nil _ _ _ _,Kept.refl _ _⟩
 case round =>
  obtain ⟨j,d,rfl,hj,HD,HA,hdn,hown,hk⟩:=hrel;have hsz:=hk.size
  by_cases hlt:j<L.length
  ·obtain ⟨b,off,rfl,hb,q0,q1,q2,q3⟩:=(hr9.keptNo hk).prop hlt
   have HT2:=Lib.hid (j4i hlt);have hmem:=List.getElem_mem hlt;have hpw:=HW.out _ hmem;have HBAD:=Lib.hid (jEk HW.out hmem);have hle:=jMu hpw;generalize hp:L[j]=p at *;obtain ⟨id,pn,A,B⟩:=p;obtain ⟨p1,p2,p3,p4⟩:=hpw;dsimp only at q0 q1 q2 q3 p1 p2 p3 p4;have cR:=λwx=>j7c id pn A B wx p1 p2 (by omega) (by omega)
   rw[show (⟨id,pn,A,B⟩:Pr).ok=xu id pn A B from rfl]at hle HBAD;rcases hok:xu id pn A B with _|_
   ·rw[hok]at cR HBAD
    have HC:=Lib.hid cR;have HG:=Lib.hid (HBAD.out rfl);clear cR hok HBAD hle hmem hp
    go_wp2_with (go_at_call 162;refine (HC.out _).mono ?_;rintro e w2 ⟨rfl,hk2⟩)
    go_ret2
    exact jHu HG.out (hr.keptNo (hk.trans hk2)) (λh=>(hn h).2) (hk.trans hk2)
   ·rw[hok]at cR hle
    have HC:=Lib.hid cR;have hf:=(j5s p1 p2 hok).1;have HL:=Lib.hid (λwx=>jJr id pn A B wx hf);have HN:Hid (d++j5l id pn A B=qe (L.take (j+1))):=Lib.hid (by rw[HT2.out,j2d,← HD.out];rfl)
    have HA2:Hid (∀ p∈L.take (j+1),p.ok=true):=Lib.hid (by
     rw[HT2.out];intro p hp;rcases List.mem_append.1 hp with h|h
     ·exact HA.out p h
     ·rw[List.mem_singleton.1 h];exact hok)
    have hle2:(j5l id pn A B).length≤131075:=hle rfl;generalize j5l id pn A B=y at *;clear cR hok HBAD hle hmem hf hp HA
    go_wp2_with (first
     | (go_at_call 162;refine (HC.out _).mono ?_;rintro e w2 ⟨rfl,hk2⟩;have s0:=(hk2.cell (p:=⟨b,off+j*4,none⟩) hb (λf=>f)).trans q0;have s1:=(hk2.cell (p:=⟨b,off+j*4+1,none⟩) hb (λf=>f)).trans q1;have s2:=(hk2.cell (p:=⟨b,off+j*4+2,none⟩) hb (λf=>f)).trans q2;have s3:=(hk2.cell (p:=⟨b,off+j*4+3,none⟩) hb (λf=>f)).trans q3)
     | (go_at_call 163;refine (HL.out _).mono ?_;rintro e w4 ⟨g4,c4,rfl,hg4,hown4,hk4⟩;have hown5:=jW (jW hown hk2) hk4)
     | (at_builtin;refine wpList_append_own _ rfl _ _ _ rfl w.heap.size 5 i0 _ 1 1 Tryz.underlying25 hi hz0 hz1 hz2 rfl (by decide) _ _ _ rfl hown5 ⟨g4,0,none⟩ y.length c4 (B8 y) rfl (by simp) ?c1 (v8 _) ?c2 ?c3 ?c4 ?_;rotate_right;intro v6 w6 hown6 hg6 _))
    case c1=>exact (Row.of_own hown4).at_add _ rfl
    case c2=>unfold maxLen;omega
    case c3=>omega
    case c4=>have:=hk2.size;have:=hk4.size;omega
    go_roundw
    case rel=>exact ⟨j+1,d++y,by go_num,by omega,Lib.hid HN.out,HA2,by rw[List.length_append];omega,by simpa [jq] using hown6,((hk.trans hk2).trans hk4).grown hg6 (qq hown5)⟩
    case measure=>simp[intOf];omega
  ·have hje:j=L.length:=by omega
   have HE:Hid (d=qe L):=Lib.hid (by rw[HD.out,List.take_of_length_le (by omega)]);have HA2:Hid (∀ p∈L,p.ok=true):=Lib.hid (by have:=HA.out;rwa [List.take_of_length_le (by omega)]at this);have hbig:d.length≤131075000:=by omega
   by_cases hlong:d.length≤268435455
   ·have hlI:decide ((268435455:Int)<d.length)=false:=by simp;omega
    have HG:Hid (vK L 0=some d.length):=Lib.hid (by
     rw[HE.out]
     have:=j2w L 0 HW.out HA2.out (by rw[Nat.zero_add,← HE.out];exact hlong)
     rwa [Nat.zero_add]at this)
    have hvl:=xY d.length;have hal:=j3b l d.length;have HV:=Lib.hid (λwx h=>jHm a c l d.length wx (by omega) h hn (by omega));have hap:(vf l d.length).length≤100004:=by omega
    have HYES:=Lib.hid (λw' v m xs h1 h2 h3 h4=>jEt (l:=l) (L:=L) (n:=d.length) (w:=w) (w':=w') (v:=v) (m:=m) (xs:=xs) HG.out h1 h2 h3 h4);clear hal hvl hje;generalize vf l d.length=l1 at *;obtain ⟨av,cv,rfl,hrv,hnv⟩:=j1b hown
    go_wp2_with (first
     | (go_at_call 55;refine (HV.out _ (hr.keptNo hk)).mono ?_;rintro e w2 ⟨g2,c2,rfl,hg2,hown2,hk2⟩)
     | (at_builtin;refine jm _ rfl _ _ _ rfl w.heap.size 5 i0 _ 1 Tryz.underlying25 hi hz0 hz1 hz2 rfl _ _ _ rfl (xM hown2 hsz) av d.length cv (B8 d) rfl (by simp) ?e0 ?e1 (v8 _) ?e2 ?e3 ?e4 ?_;rotate_right;intro v6 w6 hown6 hg6 _))
    case e0=>exact hrv.keptNo hk2
    case e1=>exact λh=>(hnv h).2
    case e2=>unfold maxLen;omega
    case e3=>omega
    case e4=>have:=hk2.size;omega
    go_ret2
    exact HYES.out _ _ _ _ hown6 (by rw[List.length_append,HE.out]) (by rw[jq,HE.out]) ((hk.trans hk2).grown hg6 (qq (xM hown2 hsz)))
   ·omega
end Go.Proofs.YtdeecgmihfakgaaGreatDoor
