import Derived.Test.YtkochkhfbhjicaaGreatDoorYFA
import Derived.Deep.RegionHeld3
import Derived.Test.YtkochkhfbhjicaaGreatDoorYFQ
import Derived.Test.YtkochkhfbhjicaaGreatDoorYF2
namespace Go.Proofs.YtkochkhfbhjicaaGreatDoor
set_option maxHeartbeats 16000000
open Go.RowKit
set_option linter.unusedVariables false
set_option linter.unusedSimpArgs false
set_option maxRecDepth 100000 in
theorem jJs (id n:Nat) (a b:ByteArray) (k:Int) (w:World) (h8:id<256) (hn:n<4294967296) (ha:a.size≤9223372036854775807) (hb:b.size≤9223372036854775807) (HTT:Hid (jl (qc id k)=4)) :
  Calls Tryz.prog 27 #[.agg #[.int .u8 id,.int .u32 n,.string a,.string b],.int .i64 k] w λe w'=>e=.returned (fxV (qc id k) n a b)∧Kept No w w':=by
 obtain ⟨i0,hi,hz0,hz1,hz2⟩:=info_parts zJ;have cF:=λi wx (h:i<256)=>xk i k wx h
 have HF:=Lib.hid cF;have HI:=Lib.hid (λwx=>j0d wx);clear cF
 go_enter Tryz.func27,Tryz.ntmps27
 go_wp2_with (go_at_call 51;refine (HI.out _).mono ?_;rintro e w1 ⟨ad,rfl,hr,hk⟩)
 have hB0:Blk w1 w.heap.size 46 #[.int .u8 id,.int .u32 n,.string a,.string b]:=((Blk.new w _ _).alloc _).kept hk (λf=>f)
 have hB1:Blk w1 (w.heap.size+1) 46 #[.int .u8 0,.int .u32 0,.string ⟨#[]⟩,.string ⟨#[]⟩]:=by
  have h:=(Blk.new _ _ _).kept hk (λf=>f);simpa using h
 have hkw:Kept No w w1:=(((Kept.refl No w).alloc _).alloc _).trans hk;clear hk
 go_loopw [5,7] (λs i wr=>∃ (j:Nat) (p:List UInt8),i=.int .i64 j∧j≤27∧Hid (p=bl (j1x k j))∧p.length≤j∧wr.ownsRow w1.heap.size 5 1 s p.length (B8 p)∧Kept No w1 wr) (λ_ i _=>27 - (intOf i).toNat)
 case atStart=>exact ⟨0,[],rfl,by omega,Lib.hid rfl,by simp,World.ownsRow_nil _ _ _ _,Kept.refl _ _⟩
 case round =>
  obtain ⟨j,p,rfl,hj,HP,hpl,hown,hk⟩:=hrel;have hsz:=hk.size
  by_cases hlt:j<27
  ·have hjI:(j:Int)<27:=by omega
   have hlc:j<qG.length:=hlt;obtain ⟨b9,off,rfl,hb9,hc⟩:=(hr.keptNo hk).at_ (k:=j) (by simpa [qV] using hlc);have hx:(qV qG)[j]'(by simpa [qV] using hlc)=.int .u8 qG[j]:=by simp[qV]
   rw[hx]at hc;have hx8:qG[j]<256:=(xg _ (List.getElem_mem hlc)).2.1;rcases hY:xP qG[j] k with _|_
   ·have HC:Hid (∀ wx,Calls Tryz.prog 52 #[.int .u8 (qG[j]:Nat),.int .i64 k] wx λe w'=>e=.returned (.bool false)∧Kept No wx w'):=Lib.hid (λwx=>by have:=HF.out _ wx hx8;rw[hY]at this;exact this)
    have HN:=Lib.hid (j0c k j hlc hY);clear hY hx;generalize qG[j]=y at *
    go_wp2_with (go_at_call 52;refine (HC.out _).mono ?_;rintro e w2 ⟨rfl,hk1⟩)
    go_roundw
    case rel=>exact ⟨j+1,p,by go_num,by omega,Lib.hid (by rw[HN.out,HP.out]),by omega,jU hown hk1,hk.trans hk1⟩
    case measure=>simp[intOf];omega
   ·have HC:Hid (∀ wx,Calls Tryz.prog 52 #[.int .u8 (qG[j]:Nat),.int .i64 k] wx λe w'=>e=.returned (.bool true)∧Kept No wx w'):=Lib.hid (λwx=>by have:=HF.out _ wx hx8;rw[hY]at this;exact this)
    have HN:=Lib.hid (zI k j hlc hY);clear hY hx;generalize qG[j]=y at *
    go_wp2_with (first
     | (go_at_call 52;refine (HC.out _).mono ?_;rintro e w2 ⟨rfl,hk1⟩;have hown1:=jU hown hk1;have hc1:=(hk1.cell (p:=⟨b9,off+j,none⟩) hb9 (λf=>f)).trans hc)
     | (at_builtin;refine jv _ rfl _ _ _ rfl w1.heap.size 5 i0 _ 1 Tryz.underlying25 hi hz0 hz1 hz2 rfl _ _ _ rfl (hown1.alloc _) (some ⟨w2.heap.size,0,none⟩) 1 1 (B8 (bl [y])) rfl ?c1 ?c2 (by simp) (vW _) ?c3 ?c4 ?c5 ?_;rotate_right;intro v2 w3 hown2 hg2 hv2))
    case c1=>rw[xF y hx8];rfl
    case c2=>rw[xF y hx8];exact .of_cells (qa w2 _ _ _ rfl)
    case c3=>unfold maxLen;omega
    case c4=>omega
    case c5=>have:=hk1.size;simp;omega
    go_roundw
    case rel=>exact ⟨j+1,p++bl [y],by go_num,by omega,Lib.hid (by rw[HN.out,HP.out,xR]),by simp[bl];omega,by simpa [jt,bl] using hown2,((hk.trans hk1).alloc _).grown hg2 (vH hown1)⟩
    case measure=>simp[intOf];omega
  ·have hj6:j=27:=by omega
   subst hj6;have hrow:=zG (l:=vA k) hown (by rw[HP.out];simp[bl,qy]) (by rw[HP.out,qy]) (j0b k);have hB0:=hB0.kept hk (λf=>f);have hB1:=hB1.kept hk (λf=>f);have hkw:=hkw.trans hk;have hmem:=λi h=>xJ (k:=k) (i:=i) h
   have hll:(vA k).length≤27:=zH k 27;have HI9:Hid (qc id k=(vA k).getD (id % (vA k).length) 0):=Lib.hid rfl;generalize vA k=l at *;generalize hg0:w.heap.size=g0 at *;have HGE:=Lib.hid (show w.heap.size≤g0 by omega);clear hg0;obtain ⟨a9,cap,rfl,hcl⟩:=hrow;clear hown HP hr HF HI hsz hpl hi hz0 hz1 hz2 hk hlt hj;have q0:=hB0.cell 0;have q1:=hB0.cell 1;have q2:=hB0.cell 2;have q3:=hB0.cell 3;have r0:=hB1.cell 0;have r1:=hB1.cell 1;have r2:=hB1.cell 2;have r3:=hB1.cell 3;simp at q0 q1 q2 q3 r0 r1 r2 r3;have f0:=hB1.frozen 0;have f1:=hB1.frozen 1;have f2:=hB1.frozen 2;have f3:=hB1.frozen 3;have hl0:=hB0.lt;have hl1:=hB1.lt
   by_cases h0:l=[]
   ·have h1:=HTT.out
    rw[HI9.out,h0]at h1;have h2:jl 0=4:=h1;exact absurd h2 (by decide)
   ·have hlp:0<l.length:=List.length_pos_iff.2 h0
    have hm:=Nat.mod_lt id hlp;obtain ⟨g,rfl,hg,hc⟩:=hcl (id % l.length) hm;have hq:=hmem _ (List.getElem_mem hm);have hge:l.getD (id % l.length) 0=l[id % l.length]:=by simp[List.getD,List.getElem?_eq_getElem hm]
    rw[hge]at HI9;have hN:((id:Int) % (l.length:Int)).toNat=id % l.length:=by rw[← Int.natCast_emod];rfl
    have hI0:(0:Int)≤(id:Int) % (l.length:Int):=Int.emod_nonneg _ (by omega);have hI1:(id:Int) % (l.length:Int)<(l.length:Int):=Int.emod_lt_of_pos _ (by omega);have hne:((l.length:Int) == 0)=false:=by simp;omega
    have hnz:(l.length:Int)≠0:=by omega
    clear hmem hcl hge;generalize l[id % l.length]=q at *;have hql:q<256:=hq.2.1;have HT9:Hid (∀ wx,Calls Tryz.prog 53 #[.int .u8 q] wx λe w'=>e=.returned (.int .i64 (jl q))∧wx=w'):=Lib.hid (λwx=>xz q wx)
    have hty:jl q=4:=by
     have h1:=HTT.out;rw[HI9.out]at h1;exact h1
    have HV0:Hid (fxV (qc id k) n a b=fxV q n a b):=Lib.hid (by rw[HI9.out]);clear HI9 h0 hlp HTT;have HV:Hid (fxV (qc id k) n a b=.agg #[.int .u8 q,.int .u32 ((1+n % 268435455:Nat):Int),.string ⟨#[]⟩,.string ⟨#[]⟩]):=Lib.hid (by rw[HV0.out];unfold fxV fxN fxA fxB;rw[hty];rfl);rw[hty]at HT9;clear hty HV0
    try clear h8q
    try clear h39
    try clear hn0
    go_wp2_with (first
     | (go_at_call 53;refine (HT9.out _).mono ?_;rintro e w2 ⟨rfl,rfl⟩))
    refine bodyPost_ret (v:=.agg #[.int .u8 q,.int .u32 ((1+n % 268435455:Nat):Int),.string ⟨#[]⟩,.string ⟨#[]⟩]) (by simp[results,Tryz.results27,go_sem,r0,r1,r2,r3,hl1]) rfl ⟨by rw[HV.out];try rfl,?_⟩;have hgE:=HGE.out
    repeat (first|exact hkw|refine Kept.trans ?_ hk4|refine Kept.trans ?_ hk3|refine Kept.alloc ?_ _|refine Kept.setCell ?_ (.inl (by first|omega|(show w.heap.size≤g0+1;omega)|(show w.heap.size≤wr.heap.size;omega))) _|refine Kept.drew ?_|refine Kept.drewN ?_ _)
set_option maxRecDepth 100000 in
theorem jJt (id n:Nat) (a b:ByteArray) (k:Int) (w:World) (h8:id<256) (hn:n<4294967296) (ha:a.size≤9223372036854775807) (hb:b.size≤9223372036854775807) (HTT:Hid (jl (qc id k)=5)) :
  Calls Tryz.prog 27 #[.agg #[.int .u8 id,.int .u32 n,.string a,.string b],.int .i64 k] w λe w'=>e=.returned (fxV (qc id k) n a b)∧Kept No w w':=by
 obtain ⟨i0,hi,hz0,hz1,hz2⟩:=info_parts zJ;have cF:=λi wx (h:i<256)=>xk i k wx h
 have HF:=Lib.hid cF;have HI:=Lib.hid (λwx=>j0d wx);clear cF
 go_enter Tryz.func27,Tryz.ntmps27
 go_wp2_with (go_at_call 51;refine (HI.out _).mono ?_;rintro e w1 ⟨ad,rfl,hr,hk⟩)
 have hB0:Blk w1 w.heap.size 46 #[.int .u8 id,.int .u32 n,.string a,.string b]:=((Blk.new w _ _).alloc _).kept hk (λf=>f)
 have hB1:Blk w1 (w.heap.size+1) 46 #[.int .u8 0,.int .u32 0,.string ⟨#[]⟩,.string ⟨#[]⟩]:=by
  have h:=(Blk.new _ _ _).kept hk (λf=>f);simpa using h
 have hkw:Kept No w w1:=(((Kept.refl No w).alloc _).alloc _).trans hk;clear hk
 go_loopw [5,7] (λs i wr=>∃ (j:Nat) (p:List UInt8),i=.int .i64 j∧j≤27∧Hid (p=bl (j1x k j))∧p.length≤j∧wr.ownsRow w1.heap.size 5 1 s p.length (B8 p)∧Kept No w1 wr) (λ_ i _=>27 - (intOf i).toNat)
 case atStart=>exact ⟨0,[],rfl,by omega,Lib.hid rfl,by simp,World.ownsRow_nil _ _ _ _,Kept.refl _ _⟩
 case round =>
  obtain ⟨j,p,rfl,hj,HP,hpl,hown,hk⟩:=hrel;have hsz:=hk.size
  by_cases hlt:j<27
  ·have hjI:(j:Int)<27:=by omega
   have hlc:j<qG.length:=hlt;obtain ⟨b9,off,rfl,hb9,hc⟩:=(hr.keptNo hk).at_ (k:=j) (by simpa [qV] using hlc);have hx:(qV qG)[j]'(by simpa [qV] using hlc)=.int .u8 qG[j]:=by simp[qV]
   rw[hx]at hc;have hx8:qG[j]<256:=(xg _ (List.getElem_mem hlc)).2.1;rcases hY:xP qG[j] k with _|_
   ·have HC:Hid (∀ wx,Calls Tryz.prog 52 #[.int .u8 (qG[j]:Nat),.int .i64 k] wx λe w'=>e=.returned (.bool false)∧Kept No wx w'):=Lib.hid (λwx=>by have:=HF.out _ wx hx8;rw[hY]at this;exact this)
    have HN:=Lib.hid (j0c k j hlc hY);clear hY hx;generalize qG[j]=y at *
    go_wp2_with (go_at_call 52;refine (HC.out _).mono ?_;rintro e w2 ⟨rfl,hk1⟩)
    go_roundw
    case rel=>exact ⟨j+1,p,by go_num,by omega,Lib.hid (by rw[HN.out,HP.out]),by omega,jU hown hk1,hk.trans hk1⟩
    case measure=>simp[intOf];omega
   ·have HC:Hid (∀ wx,Calls Tryz.prog 52 #[.int .u8 (qG[j]:Nat),.int .i64 k] wx λe w'=>e=.returned (.bool true)∧Kept No wx w'):=Lib.hid (λwx=>by have:=HF.out _ wx hx8;rw[hY]at this;exact this)
    have HN:=Lib.hid (zI k j hlc hY);clear hY hx;generalize qG[j]=y at *
    go_wp2_with (first
     | (go_at_call 52;refine (HC.out _).mono ?_;rintro e w2 ⟨rfl,hk1⟩;have hown1:=jU hown hk1;have hc1:=(hk1.cell (p:=⟨b9,off+j,none⟩) hb9 (λf=>f)).trans hc)
     | (at_builtin;refine jv _ rfl _ _ _ rfl w1.heap.size 5 i0 _ 1 Tryz.underlying25 hi hz0 hz1 hz2 rfl _ _ _ rfl (hown1.alloc _) (some ⟨w2.heap.size,0,none⟩) 1 1 (B8 (bl [y])) rfl ?c1 ?c2 (by simp) (vW _) ?c3 ?c4 ?c5 ?_;rotate_right;intro v2 w3 hown2 hg2 hv2))
    case c1=>rw[xF y hx8];rfl
    case c2=>rw[xF y hx8];exact .of_cells (qa w2 _ _ _ rfl)
    case c3=>unfold maxLen;omega
    case c4=>omega
    case c5=>have:=hk1.size;simp;omega
    go_roundw
    case rel=>exact ⟨j+1,p++bl [y],by go_num,by omega,Lib.hid (by rw[HN.out,HP.out,xR]),by simp[bl];omega,by simpa [jt,bl] using hown2,((hk.trans hk1).alloc _).grown hg2 (vH hown1)⟩
    case measure=>simp[intOf];omega
  ·have hj6:j=27:=by omega
   subst hj6;have hrow:=zG (l:=vA k) hown (by rw[HP.out];simp[bl,qy]) (by rw[HP.out,qy]) (j0b k);have hB0:=hB0.kept hk (λf=>f);have hB1:=hB1.kept hk (λf=>f);have hkw:=hkw.trans hk;have hmem:=λi h=>xJ (k:=k) (i:=i) h
   have hll:(vA k).length≤27:=zH k 27;have HI9:Hid (qc id k=(vA k).getD (id % (vA k).length) 0):=Lib.hid rfl;generalize vA k=l at *;generalize hg0:w.heap.size=g0 at *;have HGE:=Lib.hid (show w.heap.size≤g0 by omega);clear hg0;obtain ⟨a9,cap,rfl,hcl⟩:=hrow;clear hown HP hr HF HI hsz hpl hi hz0 hz1 hz2 hk hlt hj;have q0:=hB0.cell 0;have q1:=hB0.cell 1;have q2:=hB0.cell 2;have q3:=hB0.cell 3;have r0:=hB1.cell 0;have r1:=hB1.cell 1;have r2:=hB1.cell 2;have r3:=hB1.cell 3;simp at q0 q1 q2 q3 r0 r1 r2 r3;have f0:=hB1.frozen 0;have f1:=hB1.frozen 1;have f2:=hB1.frozen 2;have f3:=hB1.frozen 3;have hl0:=hB0.lt;have hl1:=hB1.lt
   by_cases h0:l=[]
   ·have h1:=HTT.out
    rw[HI9.out,h0]at h1;have h2:jl 0=5:=h1;exact absurd h2 (by decide)
   ·have hlp:0<l.length:=List.length_pos_iff.2 h0
    have hm:=Nat.mod_lt id hlp;obtain ⟨g,rfl,hg,hc⟩:=hcl (id % l.length) hm;have hq:=hmem _ (List.getElem_mem hm);have hge:l.getD (id % l.length) 0=l[id % l.length]:=by simp[List.getD,List.getElem?_eq_getElem hm]
    rw[hge]at HI9;have hN:((id:Int) % (l.length:Int)).toNat=id % l.length:=by rw[← Int.natCast_emod];rfl
    have hI0:(0:Int)≤(id:Int) % (l.length:Int):=Int.emod_nonneg _ (by omega);have hI1:(id:Int) % (l.length:Int)<(l.length:Int):=Int.emod_lt_of_pos _ (by omega);have hne:((l.length:Int) == 0)=false:=by simp;omega
    have hnz:(l.length:Int)≠0:=by omega
    clear hmem hcl hge;generalize l[id % l.length]=q at *;have hql:q<256:=hq.2.1;have HT9:Hid (∀ wx,Calls Tryz.prog 53 #[.int .u8 q] wx λe w'=>e=.returned (.int .i64 (jl q))∧wx=w'):=Lib.hid (λwx=>xz q wx)
    have hty:jl q=5:=by
     have h1:=HTT.out;rw[HI9.out]at h1;exact h1
    have HV0:Hid (fxV (qc id k) n a b=fxV q n a b):=Lib.hid (by rw[HI9.out]);clear HI9 h0 hlp HTT;have hws:=hkw.size;have hx0:g0≠wr.heap.size:=by omega
    have hx1:g0+1≠wr.heap.size:=by omega
    have hb:(((q:Nat):Int) == 8)=decide (q=8):=by
     by_cases h:q=8<;>simp[h] ;omega
    by_cases h8q:q=8
    ·rw[decide_eq_true h8q]at hb
     have HV:Hid (fxV (qc id k) n a b=.agg #[.int .u8 q,.int .u32 ((0:Nat):Int),.string (zN a),.string ⟨#[]⟩]):=Lib.hid (by rw[HV0.out];unfold fxV fxN fxA fxB;rw[hty];simp[h8q]);rw[hty]at HT9;clear hty HV0
     try clear h8q
     try clear h39
     try clear hn0
     go_wp2_with (first
      | (go_at_call 53;refine (HT9.out _).mono ?_;rintro e w2 ⟨rfl,rfl⟩)
      | (go_at_call 9;refine (z7 a _ ha).mono ?_;rintro e w3 ⟨rfl,hk3⟩;have hC0:=(hB0.alloc _).kept hk3 (λf=>f);have hC1:=(hB1.alloc _).kept hk3 (λf=>f);have hC8:=(Blk.new wr _ _).kept hk3 (λf=>f);have p2:=hC0.cell 2;have p3:=hC0.cell 3;have s0:=hC1.cell 0;have s1:=hC1.cell 1;have s2:=hC1.cell 2;have s3:=hC1.cell 3;have e0:=hC8.cell 0;have e1:=hC8.cell 1;have e2:=hC8.cell 2;have e3:=hC8.cell 3;simp at p2 p3 s0 s1 s2 s3 e0 e1 e2 e3;have sf0:=hC1.frozen 0;have sf1:=hC1.frozen 1;have sf2:=hC1.frozen 2;have sf3:=hC1.frozen 3;have ef2:=hC8.frozen 2;have ef3:=hC8.frozen 3;have hm0:=hC0.lt;have hm1:=hC1.lt;have hm8:=hC8.lt)
      | (go_at_call 10;refine (j1l a _ ha).mono ?_;rintro e w4 ⟨rfl,hk4⟩;have hD1:=(hC1.far (p:=⟨wr.heap.size,2,none⟩) (by simp;omega) _).kept hk4 (λf=>f);have hD8:=(hC8.set_ 2 _).kept hk4 (λf=>f);have t0:=hD1.cell 0;have t1:=hD1.cell 1;have t2:=hD1.cell 2;have t3:=hD1.cell 3;have d0:=hD8.cell 0;have d1:=hD8.cell 1;have d2:=hD8.cell 2;have d3:=hD8.cell 3;simp at t0 t1 t2 t3 d0 d1 d2 d3;have tf0:=hD1.frozen 0;have tf1:=hD1.frozen 1;have tf2:=hD1.frozen 2;have tf3:=hD1.frozen 3;have df2:=hD8.frozen 2;have hm41:=hD1.lt;have hm48:=hD8.lt))
     refine bodyPost_ret (v:=.agg #[.int .u8 q,.int .u32 ((0:Nat):Int),.string (zN a),.string ⟨#[]⟩]) (by simp[results,Tryz.results27,go_sem,r0,r1,r2,r3,hl1,s0,s1,s2,s3,t0,t1,t2,t3,hm1,hm8,hm41,hm48]) rfl ⟨by rw[HV.out];try rfl,?_⟩;have hgE:=HGE.out
     repeat (first|exact hkw|refine Kept.trans ?_ hk4|refine Kept.trans ?_ hk3|refine Kept.alloc ?_ _|refine Kept.setCell ?_ (.inl (by first|omega|(show w.heap.size≤g0+1;omega)|(show w.heap.size≤wr.heap.size;omega))) _|refine Kept.drew ?_|refine Kept.drewN ?_ _)
    ·rw[decide_eq_false h8q]at hb
     have HV:Hid (fxV (qc id k) n a b=.agg #[.int .u8 q,.int .u32 ((0:Nat):Int),.string (vX a),.string ⟨#[]⟩]):=Lib.hid (by rw[HV0.out];unfold fxV fxN fxA fxB;rw[hty];simp[h8q]);rw[hty]at HT9;clear hty HV0
     try clear h8q
     try clear h39
     try clear hn0
     go_wp2_with (first
      | (go_at_call 53;refine (HT9.out _).mono ?_;rintro e w2 ⟨rfl,rfl⟩)
      | (go_at_call 9;refine (z7 a _ ha).mono ?_;rintro e w3 ⟨rfl,hk3⟩;have hC0:=(hB0.alloc _).kept hk3 (λf=>f);have hC1:=(hB1.alloc _).kept hk3 (λf=>f);have hC8:=(Blk.new wr _ _).kept hk3 (λf=>f);have p2:=hC0.cell 2;have p3:=hC0.cell 3;have s0:=hC1.cell 0;have s1:=hC1.cell 1;have s2:=hC1.cell 2;have s3:=hC1.cell 3;have e0:=hC8.cell 0;have e1:=hC8.cell 1;have e2:=hC8.cell 2;have e3:=hC8.cell 3;simp at p2 p3 s0 s1 s2 s3 e0 e1 e2 e3;have sf0:=hC1.frozen 0;have sf1:=hC1.frozen 1;have sf2:=hC1.frozen 2;have sf3:=hC1.frozen 3;have ef2:=hC8.frozen 2;have ef3:=hC8.frozen 3;have hm0:=hC0.lt;have hm1:=hC1.lt;have hm8:=hC8.lt))
     refine bodyPost_ret (v:=.agg #[.int .u8 q,.int .u32 ((0:Nat):Int),.string (vX a),.string ⟨#[]⟩]) (by simp[results,Tryz.results27,go_sem,r0,r1,r2,r3,hl1,s0,s1,s2,s3,hm1,hm8]) rfl ⟨by rw[HV.out];try rfl,?_⟩;have hgE:=HGE.out
     repeat (first|exact hkw|refine Kept.trans ?_ hk4|refine Kept.trans ?_ hk3|refine Kept.alloc ?_ _|refine Kept.setCell ?_ (.inl (by first|omega|(show w.heap.size≤g0+1;omega)|(show w.heap.size≤wr.heap.size;omega))) _|refine Kept.drew ?_|refine Kept.drewN ?_ _)
set_option maxRecDepth 100000 in
theorem jJu (id n:Nat) (a b:ByteArray) (k:Int) (w:World) (h8:id<256) (hn:n<4294967296) (ha:a.size≤9223372036854775807) (hb:b.size≤9223372036854775807) (HTT:Hid (jl (qc id k)=6)) :
  Calls Tryz.prog 27 #[.agg #[.int .u8 id,.int .u32 n,.string a,.string b],.int .i64 k] w λe w'=>e=.returned (fxV (qc id k) n a b)∧Kept No w w':=by
 obtain ⟨i0,hi,hz0,hz1,hz2⟩:=info_parts zJ;have cF:=λi wx (h:i<256)=>xk i k wx h
 have HF:=Lib.hid cF;have HI:=Lib.hid (λwx=>j0d wx);clear cF
 go_enter Tryz.func27,Tryz.ntmps27
 go_wp2_with (go_at_call 51;refine (HI.out _).mono ?_;rintro e w1 ⟨ad,rfl,hr,hk⟩)
 have hB0:Blk w1 w.heap.size 46 #[.int .u8 id,.int .u32 n,.string a,.string b]:=((Blk.new w _ _).alloc _).kept hk (λf=>f)
 have hB1:Blk w1 (w.heap.size+1) 46 #[.int .u8 0,.int .u32 0,.string ⟨#[]⟩,.string ⟨#[]⟩]:=by
  have h:=(Blk.new _ _ _).kept hk (λf=>f);simpa using h
 have hkw:Kept No w w1:=(((Kept.refl No w).alloc _).alloc _).trans hk;clear hk
 go_loopw [5,7] (λs i wr=>∃ (j:Nat) (p:List UInt8),i=.int .i64 j∧j≤27∧Hid (p=bl (j1x k j))∧p.length≤j∧wr.ownsRow w1.heap.size 5 1 s p.length (B8 p)∧Kept No w1 wr) (λ_ i _=>27 - (intOf i).toNat)
 case atStart=>exact ⟨0,[],rfl,by omega,Lib.hid rfl,by simp,World.ownsRow_nil _ _ _ _,Kept.refl _ _⟩
 case round =>
  obtain ⟨j,p,rfl,hj,HP,hpl,hown,hk⟩:=hrel;have hsz:=hk.size
  by_cases hlt:j<27
  ·have hjI:(j:Int)<27:=by omega
   have hlc:j<qG.length:=hlt;obtain ⟨b9,off,rfl,hb9,hc⟩:=(hr.keptNo hk).at_ (k:=j) (by simpa [qV] using hlc);have hx:(qV qG)[j]'(by simpa [qV] using hlc)=.int .u8 qG[j]:=by simp[qV]
   rw[hx]at hc;have hx8:qG[j]<256:=(xg _ (List.getElem_mem hlc)).2.1;rcases hY:xP qG[j] k with _|_
   ·have HC:Hid (∀ wx,Calls Tryz.prog 52 #[.int .u8 (qG[j]:Nat),.int .i64 k] wx λe w'=>e=.returned (.bool false)∧Kept No wx w'):=Lib.hid (λwx=>by have:=HF.out _ wx hx8;rw[hY]at this;exact this)
    have HN:=Lib.hid (j0c k j hlc hY);clear hY hx;generalize qG[j]=y at *
    go_wp2_with (go_at_call 52;refine (HC.out _).mono ?_;rintro e w2 ⟨rfl,hk1⟩)
    go_roundw
    case rel=>exact ⟨j+1,p,by go_num,by omega,Lib.hid (by rw[HN.out,HP.out]),by omega,jU hown hk1,hk.trans hk1⟩
    case measure=>simp[intOf];omega
   ·have HC:Hid (∀ wx,Calls Tryz.prog 52 #[.int .u8 (qG[j]:Nat),.int .i64 k] wx λe w'=>e=.returned (.bool true)∧Kept No wx w'):=Lib.hid (λwx=>by have:=HF.out _ wx hx8;rw[hY]at this;exact this)
    have HN:=Lib.hid (zI k j hlc hY);clear hY hx;generalize qG[j]=y at *
    go_wp2_with (first
     | (go_at_call 52;refine (HC.out _).mono ?_;rintro e w2 ⟨rfl,hk1⟩;have hown1:=jU hown hk1;have hc1:=(hk1.cell (p:=⟨b9,off+j,none⟩) hb9 (λf=>f)).trans hc)
     | (at_builtin;refine jv _ rfl _ _ _ rfl w1.heap.size 5 i0 _ 1 Tryz.underlying25 hi hz0 hz1 hz2 rfl _ _ _ rfl (hown1.alloc _) (some ⟨w2.heap.size,0,none⟩) 1 1 (B8 (bl [y])) rfl ?c1 ?c2 (by simp) (vW _) ?c3 ?c4 ?c5 ?_;rotate_right;intro v2 w3 hown2 hg2 hv2))
    case c1=>rw[xF y hx8];rfl
    case c2=>rw[xF y hx8];exact .of_cells (qa w2 _ _ _ rfl)
    case c3=>unfold maxLen;omega
    case c4=>omega
    case c5=>have:=hk1.size;simp;omega
    go_roundw
    case rel=>exact ⟨j+1,p++bl [y],by go_num,by omega,Lib.hid (by rw[HN.out,HP.out,xR]),by simp[bl];omega,by simpa [jt,bl] using hown2,((hk.trans hk1).alloc _).grown hg2 (vH hown1)⟩
    case measure=>simp[intOf];omega
  ·have hj6:j=27:=by omega
   subst hj6;have hrow:=zG (l:=vA k) hown (by rw[HP.out];simp[bl,qy]) (by rw[HP.out,qy]) (j0b k);have hB0:=hB0.kept hk (λf=>f);have hB1:=hB1.kept hk (λf=>f);have hkw:=hkw.trans hk;have hmem:=λi h=>xJ (k:=k) (i:=i) h
   have hll:(vA k).length≤27:=zH k 27;have HI9:Hid (qc id k=(vA k).getD (id % (vA k).length) 0):=Lib.hid rfl;generalize vA k=l at *;generalize hg0:w.heap.size=g0 at *;have HGE:=Lib.hid (show w.heap.size≤g0 by omega);clear hg0;obtain ⟨a9,cap,rfl,hcl⟩:=hrow;clear hown HP hr HF HI hsz hpl hi hz0 hz1 hz2 hk hlt hj;have q0:=hB0.cell 0;have q1:=hB0.cell 1;have q2:=hB0.cell 2;have q3:=hB0.cell 3;have r0:=hB1.cell 0;have r1:=hB1.cell 1;have r2:=hB1.cell 2;have r3:=hB1.cell 3;simp at q0 q1 q2 q3 r0 r1 r2 r3;have f0:=hB1.frozen 0;have f1:=hB1.frozen 1;have f2:=hB1.frozen 2;have f3:=hB1.frozen 3;have hl0:=hB0.lt;have hl1:=hB1.lt
   by_cases h0:l=[]
   ·have h1:=HTT.out
    rw[HI9.out,h0]at h1;have h2:jl 0=6:=h1;exact absurd h2 (by decide)
   ·have hlp:0<l.length:=List.length_pos_iff.2 h0
    have hm:=Nat.mod_lt id hlp;obtain ⟨g,rfl,hg,hc⟩:=hcl (id % l.length) hm;have hq:=hmem _ (List.getElem_mem hm);have hge:l.getD (id % l.length) 0=l[id % l.length]:=by simp[List.getD,List.getElem?_eq_getElem hm]
    rw[hge]at HI9;have hN:((id:Int) % (l.length:Int)).toNat=id % l.length:=by rw[← Int.natCast_emod];rfl
    have hI0:(0:Int)≤(id:Int) % (l.length:Int):=Int.emod_nonneg _ (by omega);have hI1:(id:Int) % (l.length:Int)<(l.length:Int):=Int.emod_lt_of_pos _ (by omega);have hne:((l.length:Int) == 0)=false:=by simp;omega
    have hnz:(l.length:Int)≠0:=by omega
    clear hmem hcl hge;generalize l[id % l.length]=q at *;have hql:q<256:=hq.2.1;have HT9:Hid (∀ wx,Calls Tryz.prog 53 #[.int .u8 q] wx λe w'=>e=.returned (.int .i64 (jl q))∧wx=w'):=Lib.hid (λwx=>xz q wx)
    have hty:jl q=6:=by
     have h1:=HTT.out;rw[HI9.out]at h1;exact h1
    have HV0:Hid (fxV (qc id k) n a b=fxV q n a b):=Lib.hid (by rw[HI9.out]);clear HI9 h0 hlp HTT;have hmn:(min (a.size:Int) 9).toNat=min a.size 9:=by omega
    have HV:Hid (fxV (qc id k) n a b=.agg #[.int .u8 q,.int .u32 ((0:Nat):Int),.string (a.extract 0 (min a.size 9)),.string ⟨#[]⟩]):=Lib.hid (by rw[HV0.out];unfold fxV fxN fxA fxB;rw[hty];rfl);rw[hty]at HT9;clear hty HV0
    try clear h8q
    try clear h39
    try clear hn0
    go_wp2_with (first
     | (go_at_call 53;refine (HT9.out _).mono ?_;rintro e w2 ⟨rfl,rfl⟩))
    refine bodyPost_ret (v:=.agg #[.int .u8 q,.int .u32 ((0:Nat):Int),.string (a.extract 0 (min a.size 9)),.string ⟨#[]⟩]) (by simp[results,Tryz.results27,go_sem,r0,r1,r2,r3,hl1,hmn]) rfl ⟨by rw[HV.out];try rfl,?_⟩;have hgE:=HGE.out
    repeat (first|exact hkw|refine Kept.trans ?_ hk4|refine Kept.trans ?_ hk3|refine Kept.alloc ?_ _|refine Kept.setCell ?_ (.inl (by first|omega|(show w.heap.size≤g0+1;omega)|(show w.heap.size≤wr.heap.size;omega))) _|refine Kept.drew ?_|refine Kept.drewN ?_ _)
set_option maxRecDepth 100000 in
theorem jJv (id n:Nat) (a b:ByteArray) (k:Int) (w:World) (h8:id<256) (hn:n<4294967296) (ha:a.size≤9223372036854775807) (hb:b.size≤9223372036854775807) (HTT:Hid (jl (qc id k)=7)) :
  Calls Tryz.prog 27 #[.agg #[.int .u8 id,.int .u32 n,.string a,.string b],.int .i64 k] w λe w'=>e=.returned (fxV (qc id k) n a b)∧Kept No w w':=by
 obtain ⟨i0,hi,hz0,hz1,hz2⟩:=info_parts zJ;have cF:=λi wx (h:i<256)=>xk i k wx h
 have HF:=Lib.hid cF;have HI:=Lib.hid (λwx=>j0d wx);clear cF
 go_enter Tryz.func27,Tryz.ntmps27
 go_wp2_with (go_at_call 51;refine (HI.out _).mono ?_;rintro e w1 ⟨ad,rfl,hr,hk⟩)
 have hB0:Blk w1 w.heap.size 46 #[.int .u8 id,.int .u32 n,.string a,.string b]:=((Blk.new w _ _).alloc _).kept hk (λf=>f)
 have hB1:Blk w1 (w.heap.size+1) 46 #[.int .u8 0,.int .u32 0,.string ⟨#[]⟩,.string ⟨#[]⟩]:=by
  have h:=(Blk.new _ _ _).kept hk (λf=>f);simpa using h
 have hkw:Kept No w w1:=(((Kept.refl No w).alloc _).alloc _).trans hk;clear hk
 go_loopw [5,7] (λs i wr=>∃ (j:Nat) (p:List UInt8),i=.int .i64 j∧j≤27∧Hid (p=bl (j1x k j))∧p.length≤j∧wr.ownsRow w1.heap.size 5 1 s p.length (B8 p)∧Kept No w1 wr) (λ_ i _=>27 - (intOf i).toNat)
 case atStart=>exact ⟨0,[],rfl,by omega,Lib.hid rfl,by simp,World.ownsRow_nil _ _ _ _,Kept.refl _ _⟩
 case round =>
  obtain ⟨j,p,rfl,hj,HP,hpl,hown,hk⟩:=hrel;have hsz:=hk.size
  by_cases hlt:j<27
  ·have hjI:(j:Int)<27:=by omega
   have hlc:j<qG.length:=hlt;obtain ⟨b9,off,rfl,hb9,hc⟩:=(hr.keptNo hk).at_ (k:=j) (by simpa [qV] using hlc);have hx:(qV qG)[j]'(by simpa [qV] using hlc)=.int .u8 qG[j]:=by simp[qV]
   rw[hx]at hc;have hx8:qG[j]<256:=(xg _ (List.getElem_mem hlc)).2.1;rcases hY:xP qG[j] k with _|_
   ·have HC:Hid (∀ wx,Calls Tryz.prog 52 #[.int .u8 (qG[j]:Nat),.int .i64 k] wx λe w'=>e=.returned (.bool false)∧Kept No wx w'):=Lib.hid (λwx=>by have:=HF.out _ wx hx8;rw[hY]at this;exact this)
    have HN:=Lib.hid (j0c k j hlc hY);clear hY hx;generalize qG[j]=y at *
    go_wp2_with (go_at_call 52;refine (HC.out _).mono ?_;rintro e w2 ⟨rfl,hk1⟩)
    go_roundw
    case rel=>exact ⟨j+1,p,by go_num,by omega,Lib.hid (by rw[HN.out,HP.out]),by omega,jU hown hk1,hk.trans hk1⟩
    case measure=>simp[intOf];omega
   ·have HC:Hid (∀ wx,Calls Tryz.prog 52 #[.int .u8 (qG[j]:Nat),.int .i64 k] wx λe w'=>e=.returned (.bool true)∧Kept No wx w'):=Lib.hid (λwx=>by have:=HF.out _ wx hx8;rw[hY]at this;exact this)
    have HN:=Lib.hid (zI k j hlc hY);clear hY hx;generalize qG[j]=y at *
    go_wp2_with (first
     | (go_at_call 52;refine (HC.out _).mono ?_;rintro e w2 ⟨rfl,hk1⟩;have hown1:=jU hown hk1;have hc1:=(hk1.cell (p:=⟨b9,off+j,none⟩) hb9 (λf=>f)).trans hc)
     | (at_builtin;refine jv _ rfl _ _ _ rfl w1.heap.size 5 i0 _ 1 Tryz.underlying25 hi hz0 hz1 hz2 rfl _ _ _ rfl (hown1.alloc _) (some ⟨w2.heap.size,0,none⟩) 1 1 (B8 (bl [y])) rfl ?c1 ?c2 (by simp) (vW _) ?c3 ?c4 ?c5 ?_;rotate_right;intro v2 w3 hown2 hg2 hv2))
    case c1=>rw[xF y hx8];rfl
    case c2=>rw[xF y hx8];exact .of_cells (qa w2 _ _ _ rfl)
    case c3=>unfold maxLen;omega
    case c4=>omega
    case c5=>have:=hk1.size;simp;omega
    go_roundw
    case rel=>exact ⟨j+1,p++bl [y],by go_num,by omega,Lib.hid (by rw[HN.out,HP.out,xR]),by simp[bl];omega,by simpa [jt,bl] using hown2,((hk.trans hk1).alloc _).grown hg2 (vH hown1)⟩
    case measure=>simp[intOf];omega
  ·have hj6:j=27:=by omega
   subst hj6;have hrow:=zG (l:=vA k) hown (by rw[HP.out];simp[bl,qy]) (by rw[HP.out,qy]) (j0b k);have hB0:=hB0.kept hk (λf=>f);have hB1:=hB1.kept hk (λf=>f);have hkw:=hkw.trans hk;have hmem:=λi h=>xJ (k:=k) (i:=i) h
   have hll:(vA k).length≤27:=zH k 27;have HI9:Hid (qc id k=(vA k).getD (id % (vA k).length) 0):=Lib.hid rfl;generalize vA k=l at *;generalize hg0:w.heap.size=g0 at *;have HGE:=Lib.hid (show w.heap.size≤g0 by omega);clear hg0;obtain ⟨a9,cap,rfl,hcl⟩:=hrow;clear hown HP hr HF HI hsz hpl hi hz0 hz1 hz2 hk hlt hj;have q0:=hB0.cell 0;have q1:=hB0.cell 1;have q2:=hB0.cell 2;have q3:=hB0.cell 3;have r0:=hB1.cell 0;have r1:=hB1.cell 1;have r2:=hB1.cell 2;have r3:=hB1.cell 3;simp at q0 q1 q2 q3 r0 r1 r2 r3;have f0:=hB1.frozen 0;have f1:=hB1.frozen 1;have f2:=hB1.frozen 2;have f3:=hB1.frozen 3;have hl0:=hB0.lt;have hl1:=hB1.lt
   by_cases h0:l=[]
   ·have h1:=HTT.out
    rw[HI9.out,h0]at h1;have h2:jl 0=7:=h1;exact absurd h2 (by decide)
   ·have hlp:0<l.length:=List.length_pos_iff.2 h0
    have hm:=Nat.mod_lt id hlp;obtain ⟨g,rfl,hg,hc⟩:=hcl (id % l.length) hm;have hq:=hmem _ (List.getElem_mem hm);have hge:l.getD (id % l.length) 0=l[id % l.length]:=by simp[List.getD,List.getElem?_eq_getElem hm]
    rw[hge]at HI9;have hN:((id:Int) % (l.length:Int)).toNat=id % l.length:=by rw[← Int.natCast_emod];rfl
    have hI0:(0:Int)≤(id:Int) % (l.length:Int):=Int.emod_nonneg _ (by omega);have hI1:(id:Int) % (l.length:Int)<(l.length:Int):=Int.emod_lt_of_pos _ (by omega);have hne:((l.length:Int) == 0)=false:=by simp;omega
    have hnz:(l.length:Int)≠0:=by omega
    clear hmem hcl hge;generalize l[id % l.length]=q at *;have hql:q<256:=hq.2.1;have HT9:Hid (∀ wx,Calls Tryz.prog 53 #[.int .u8 q] wx λe w'=>e=.returned (.int .i64 (jl q))∧wx=w'):=Lib.hid (λwx=>xz q wx)
    have hty:jl q=7:=by
     have h1:=HTT.out;rw[HI9.out]at h1;exact h1
    have HV0:Hid (fxV (qc id k) n a b=fxV q n a b):=Lib.hid (by rw[HI9.out]);clear HI9 h0 hlp HTT;have hws:=hkw.size;have hx0:g0≠wr.heap.size:=by omega
    have hx1:g0+1≠wr.heap.size:=by omega
    have HV:Hid (fxV (qc id k) n a b=.agg #[.int .u8 q,.int .u32 ((0:Nat):Int),.string (vX a),.string (vX b)]):=Lib.hid (by rw[HV0.out];unfold fxV fxN fxA fxB;rw[hty];rfl);rw[hty]at HT9;clear hty HV0
    try clear h8q
    try clear h39
    try clear hn0
    go_wp2_with (first
     | (go_at_call 53;refine (HT9.out _).mono ?_;rintro e w2 ⟨rfl,rfl⟩))
    refine wp_region_held_drew (S:=(λwx=>wx.cell? ⟨g0,2,none⟩=some (.string a)∧wx.cell? ⟨g0,3,none⟩=some (.string b))) (by kernel_rfl) ?_ (λhHeld=>?_)
    ·exact ⟨(hB0.alloc _).drew.cell 2,(hB0.alloc _).drew.cell 3⟩
    refine wtv (i:=0) (v:=?_) rfl (λwz9 hSw=>?_) ?_;rotate_left;(·(try dsimp only at hSw);go_simp;try with_reducible rfl);go_simp
    refine wtv (i:=3) (v:=?_) rfl (λwz9 hSw=>?_) ?_;rotate_left;(·(try dsimp only at hSw);go_simp;try with_reducible rfl);go_simp
    refine wtv (i:=1) (v:=?_) rfl (λwz9 hSw=>?_) ?_;rotate_left;(·(try dsimp only at hSw);go_simp;try with_reducible rfl);go_simp
    refine wtv (i:=4) (v:=?_) rfl (λwz9 hSw=>?_) ?_;rotate_left;(·(try dsimp only at hSw);go_simp;try with_reducible rfl);go_simp
    refine wpAnyH_ready (rs:=[2]) (by kernel_rfl) (by simp) ?_;refine AllReadyH.cons rfl (λK9 hK9=>?_) AllReadyH.nil
    go_simp
    go_wp2_with (go_at_call 9;refine (z7 a _ ha).mono ?_;rintro e w3 ⟨rfl,hk3⟩;have hC0:=((hB0.alloc _).drew).kept hk3 (λf=>f);have hC1:=((hB1.alloc _).drew).kept hk3 (λf=>f);have hC8:=((Blk.new wr _ _).drew).kept hk3 (λf=>f))
    refine hK9.out _ _ ?_ (λhHeld=>?_)
    ·exact ⟨hC0.cell 2,hC0.cell 3⟩
    clear hK9 K9;refine wtk (i:=6) (v:=?vvz6) rfl (Or.inl ⟨by rfl,?hhz6⟩) (by assumption) ?rrz6
    case hhz6=>(intro wz9 hSw;(try dsimp only at hSw);go_simp;try with_reducible rfl)
    go_simp
    refine wpAnyH_ready (rs:=[5]) (by kernel_rfl) (by simp) ?_;refine AllReadyH.cons rfl (λK9 hK9=>?_) AllReadyH.nil
    go_simp
    go_wp2_with (go_at_call 9;refine (z7 b _ hb).mono ?_;rintro e w4 ⟨rfl,hk4⟩;have hD0:=hC0.kept hk4 (λf=>f);have hD1:=hC1.kept hk4 (λf=>f);have hD8:=hC8.kept hk4 (λf=>f);have t0:=hD1.cell 0;have t1:=hD1.cell 1;have t2:=hD1.cell 2;have t3:=hD1.cell 3;have d0:=hD8.cell 0;have d1:=hD8.cell 1;have d2:=hD8.cell 2;have d3:=hD8.cell 3;simp at t0 t1 t2 t3 d0 d1 d2 d3;have tf0:=hD1.frozen 0;have tf1:=hD1.frozen 1;have tf2:=hD1.frozen 2;have tf3:=hD1.frozen 3;have df2:=hD8.frozen 2;have df3:=hD8.frozen 3;have hm41:=hD1.lt;have hm48:=hD8.lt)
    refine hK9.out _ _ ?_ (λhHeld=>?_)
    ·exact ⟨hD0.cell 2,hD0.cell 3⟩
    clear hK9 K9;refine wpAnyH_ready (rs:=[7]) (by kernel_rfl) (by simp) ?_;refine AllReadyH.cons rfl (λK9 hK9=>?_) AllReadyH.nil
    go_simp
    refine hK9.out _ _ ?_ (λhHeld=>?_)
    ·exact ⟨(hD0.far (p:=⟨wr.heap.size,2,none⟩) hx0 _).cell 2,(hD0.far (p:=⟨wr.heap.size,2,none⟩) hx0 _).cell 3⟩
    clear hK9 K9
    go_simp
    refine wtv (i:=8) (v:=?_) rfl (λwz9 hSw=>?_) ?_;rotate_left;(·(try dsimp only at hSw);go_simp;try with_reducible rfl);go_simp
    refine wpAnyH_ready (rs:=[9]) (by kernel_rfl) (by simp) ?_;refine AllReadyH.cons rfl (λK9 hK9=>?_) AllReadyH.nil
    go_simp
    refine hK9.out _ _ ?_ (λhHeld=>?_)
    ·exact ⟨((hD0.far (p:=⟨wr.heap.size,2,none⟩) hx0 _).far (p:=⟨wr.heap.size,3,none⟩) hx0 _).cell 2,((hD0.far (p:=⟨wr.heap.size,2,none⟩) hx0 _).far (p:=⟨wr.heap.size,3,none⟩) hx0 _).cell 3⟩
    clear hK9 K9
    go_simp
    refine wpAnyH_done (by kernel_rfl) ?_ _
    have hE8:Blk ((w4.setCell ⟨wr.heap.size,2,none⟩ (.string (vX a))).setCell ⟨wr.heap.size,3,none⟩ (.string (vX b))) wr.heap.size 46 #[.int .u8 q,.int .u32 0,.string (vX a),.string (vX b)]:=by
     have h:=(hD8.set_ 2 (.string (vX a))).set_ 3 (.string (vX b));simpa using h
    have hE1:Blk ((w4.setCell ⟨wr.heap.size,2,none⟩ (.string (vX a))).setCell ⟨wr.heap.size,3,none⟩ (.string (vX b))) (g0+1) 46 #[.int .u8 0,.int .u32 0,.string ⟨#[]⟩,.string ⟨#[]⟩]:=(hD1.far (p:=⟨wr.heap.size,2,none⟩) hx1 _).far (p:=⟨wr.heap.size,3,none⟩) hx1 _;have hgE:=HGE.out
    have hkE:Kept No w ((w4.setCell ⟨wr.heap.size,2,none⟩ (.string (vX a))).setCell ⟨wr.heap.size,3,none⟩ (.string (vX b))):=by
     refine Kept.setCell (Kept.setCell ((((hkw.alloc _).drew).trans hk3).trans hk4) (.inl ?_) _) (.inl ?_) _
     ·show w.heap.size≤wr.heap.size;omega
     ·show w.heap.size≤wr.heap.size;omega
    generalize ((w4.setCell ⟨wr.heap.size,2,none⟩ (.string (vX a))).setCell ⟨wr.heap.size,3,none⟩ (.string (vX b)))=w5 at *;clear t0 t1 t2 t3 d0 d1 d2 d3 tf0 tf1 tf2 tf3 df2 df3 hm41 hm48 hD0 hD1 hD8 hC0 hC1 hC8 hk3 hk4 hHeld;have t0:=hE1.cell 0;have t1:=hE1.cell 1;have t2:=hE1.cell 2;have t3:=hE1.cell 3;have d0:=hE8.cell 0;have d1:=hE8.cell 1;have d2:=hE8.cell 2;have d3:=hE8.cell 3;simp at t0 t1 t2 t3 d0 d1 d2 d3;have tf0:=hE1.frozen 0;have tf1:=hE1.frozen 1;have tf2:=hE1.frozen 2;have tf3:=hE1.frozen 3;have hm41:=hE1.lt;have hm48:=hE8.lt;clear hE1 hE8
    go_wp2
    refine bodyPost_ret (v:=.agg #[.int .u8 q,.int .u32 ((0:Nat):Int),.string (vX a),.string (vX b)]) (by simp[results,Tryz.results27,go_sem,t0,t1,t2,t3,d0,d1,d2,d3,hm41,hm48]) rfl ⟨by rw[HV.out],?_⟩
    repeat (first|exact hkE|refine Kept.setCell ?_ (.inl (by show w.heap.size≤g0+1;omega)) _)
theorem jH9 (id n:Nat) (a b:ByteArray) (k:Int) (w:World) (h8:id<256) (hn:n<4294967296) (ha:a.size≤9223372036854775807) (hb:b.size≤9223372036854775807) :
  Calls Tryz.prog 27 #[.agg #[.int .u8 id,.int .u32 n,.string a,.string b],.int .i64 k] w λe w'=>e=.returned (fxV (qc id k) n a b)∧Kept No w w':=by
 have ht:=zW (qc id k);rcases (show jl (qc id k)=0∨jl (qc id k)=1∨jl (qc id k)=2∨jl (qc id k)=3∨jl (qc id k)=4∨jl (qc id k)=5∨jl (qc id k)=6∨jl (qc id k)=7 from by omega) with h|h|h|h|h|h|h|h
 ·exact jJo id n a b k w h8 hn ha hb (Lib.hid h)
 ·exact jJp id n a b k w h8 hn ha hb (Lib.hid h)
 ·exact jJq id n a b k w h8 hn ha hb (Lib.hid h)
 ·exact jJr id n a b k w h8 hn ha hb (Lib.hid h)
 ·exact jJs id n a b k w h8 hn ha hb (Lib.hid h)
 ·exact jJt id n a b k w h8 hn ha hb (Lib.hid h)
 ·exact jJu id n a b k w h8 hn ha hb (Lib.hid h)
 ·exact jJv id n a b k w h8 hn ha hb (Lib.hid h)
theorem jGj {id:Nat} {k:Int} (h:vA k≠[]):qc id k∈vA k:=by
 unfold qc;have hl:=List.length_pos_iff.2 h;rw[List.getD_eq_getElem?_getD,List.getElem?_eq_getElem (Nat.mod_lt _ hl)];exact List.getElem_mem _
theorem j0s (s:ByteArray):jb (vX s)=true:=by
 have h1:=zE s;unfold jb;rw[decide_eq_true (by omega)];show xh (zV s.data.toList)=true;rw[j61];exact Option.isSome_iff_ne_none.2 (jOs s.data.toList []).1
theorem j0e:j4s ⟨#[]⟩ ⟨#[]⟩=true:=by decide +kernel
theorem j9t (a:ByteArray):(jI3 a).size≤9:=by
 unfold jI3;rw[ByteArray.size_extract];omega
theorem j6u:(⟨#[]⟩:ByteArray).toList.isEmpty=true:=by decide +kernel
theorem jKb:∀ q:Fin 256,(q.1∈[1,23,25,36,37,40,41,42]→jl q.1=1)∧(q.1∈[11,33,35,39]→(jl q.1=2∨jl q.1=4∨q.1=39))∧(q.1=8→jl q.1=5)∧(jl q.1=5→q.1 ∉ [1,23,25,36,37,40,41,42]∧q.1 ∉ [11,33,35,39]):=by decide +kernel
theorem jA2 (q n:Nat) (a b:ByteArray) (hn:n<4294967296) (hq:q<256) (ht:1≤jl q):j06 q (fxN q n) (fxA q a) (fxB q b)=true:=by
 have ht7:=zW q;have hv9:=jKb ⟨q,hq⟩;dsimp only at hv9;obtain ⟨v1,v2,v3,v4⟩:=hv9
 have hR:xw q (fxN q n) (fxA q a) (fxB q b)=true:=by
  unfold xw vb fxN fxA fxB;rcases (show jl q=1∨jl q=2∨jl q=3∨jl q=4∨jl q=5∨jl q=6∨jl q=7 from by omega) with h|h|h|h|h|h|h<;>simp only[h,Nat.reduceEqDiff,if_true,if_false,ite_true,ite_false]
  ·unfold j4e;rw[j0e,decide_eq_true (by omega)];rfl
  ·unfold j4e;rw[j0e,decide_eq_true (by omega)];rfl
  ·unfold j4e;rw[j0e,decide_eq_true (by split<;>omega)];rfl
  ·unfold j4e;rw[j0e,decide_eq_true (by omega)];rfl
  ·rw[j6u]
   split
   ·rw[((vg a).vt.ok (by have:=(vg a).size;omega))];rfl
   ·rw[j0s];rfl
  ·have h9:decide ((jI3 a).size≤65535)=true:=decide_eq_true (by have:=j9t a;omega)
   rw[j6u,h9];rfl
  ·rw[j0s,j0s];rfl
 unfold j06;rw[hR,Bool.true_and];unfold j9g
 split
 ·rename_i h
  have h1:=v1 h;unfold fxN;rw[if_pos h1];exact decide_eq_true (by omega)
 ·split
  ·rename_i h
   have h1:=v2 h
   have:fxN q n≠0:=by
    unfold fxN;rcases h1 with h1|h1|h1
    ·rw[if_neg (by omega),if_pos h1];omega
    ·rw[if_neg (by omega),if_neg (by omega),if_neg (by omega),if_pos h1];omega
    ·have h3:jl q=3:=by rw[h1];decide
     rw[if_neg (by omega),if_neg (by omega),if_pos h3]
     split<;>omega
   simp[this]
  ·split
   ·rename_i h
    have h1:=v3 h;unfold fxA;rw[if_pos h1,if_pos h];exact (vg a).name
   ·rfl
end Go.Proofs.YtkochkhfbhjicaaGreatDoor
