import Derived.Test.YtohmcfmcbibbcaaGreatDoorYFA
import Derived.Deep.RegionHeld3
import Derived.Test.YtohmcfmcbibbcaaGreatDoorYFQ
import Derived.Test.YtohmcfmcbibbcaaGreatDoorYF2
namespace Go.Proofs.YtohmcfmcbibbcaaGreatDoor
open Go.RowKit
set_option linter.unusedVariables false
set_option linter.unusedSimpArgs false
set_option maxRecDepth 100000 in
set_option maxHeartbeats 16000000 in
theorem rfix_t4 (id n:Nat) (a b:ByteArray) (k:Int) (w:World) (h8:id < 256) (hn:n < 4294967296) (ha:a.size≤9223372036854775807) (hb:b.size≤9223372036854775807) (HTT:Hid (typL (fxId id k)=4)) :
  Calls Tryz.prog 123 #[.agg #[.int .u8 id,.int .u32 n,.string a,.string b],.int .i64 k] w fun e w'=>e=.returned (fxV (fxId id k) n a b)∧Kept No w w':=by
 obtain ⟨i0,hi,hz0,hz1,hz2⟩:=info_parts info_u8p;have cF:=fun i wx (h:i < 256)=>rfor_any i k wx h
 have HF:=Lib.hid cF;have HI:=Lib.hid (fun wx=>ids_any wx);clear cF
 go_enter Tryz.func123,Tryz.ntmps123
 go_wp2_with (go_at_call 169;refine (HI.out _).mono ?_;rintro e w1 ⟨ad,rfl,hr,hk⟩)
 have hB0:Blk w1 w.heap.size 123 #[.int .u8 id,.int .u32 n,.string a,.string b]:=((Blk.new w _ _).alloc _).kept hk (fun f=>f)
 have hB1:Blk w1 (w.heap.size+1) 123 #[.int .u8 0,.int .u32 0,.string ⟨#[]⟩,.string ⟨#[]⟩]:=by
  have h:=(Blk.new _ _ _).kept hk (fun f=>f);simpa using h
 have hkw:Kept No w w1:=(((Kept.refl No w).alloc _).alloc _).trans hk;clear hk
 go_loopw [5,7] (fun s i wr=>∃ (j:Nat) (p:List UInt8),i=.int .i64 j∧j≤27∧Hid (p=bl (idsT k j))∧p.length≤j∧wr.ownsRow w1.heap.size 5 1 s p.length (B8 p)∧Kept No w1 wr) (fun _ i _=>27 - (intOf i).toNat)
 case atStart=>exact ⟨0,[],rfl,by omega,Lib.hid rfl,by simp,World.ownsRow_nil _ _ _ _,Kept.refl _ _⟩
 case round =>
  obtain ⟨j,p,rfl,hj,HP,hpl,hown,hk⟩:=hrel;have hsz:=hk.size
  by_cases hlt:j < 27
  ·have hjI:(j:Int) < 27:=by omega
   have hlc:j < idsC.length:=hlt;obtain ⟨b9,off,rfl,hb9,hc⟩:=(hr.keptNo hk).at_ (k:=j) (by simpa [nats] using hlc);have hx:(nats idsC)[j]'(by simpa [nats] using hlc)=.int .u8 idsC[j]:=by simp[nats]
   rw[hx]at hc;have hx8:idsC[j] < 256:=(idsC_fin _ (List.getElem_mem hlc)).2.1;rcases hY:forB idsC[j] k with _|_
   ·have HC:Hid (∀ wx,Calls Tryz.prog 144 #[.int .u8 (idsC[j]:Nat),.int .i64 k] wx fun e w'=>e=.returned (.bool false)∧Kept No wx w'):=Lib.hid (fun wx=>by have:=HF.out _ wx hx8;rw[hY]at this;exact this)
    have HN:=Lib.hid (idsT_no k j hlc hY);clear hY hx;generalize idsC[j]=y at *
    go_wp2_with (go_at_call 144;refine (HC.out _).mono ?_;rintro e w2 ⟨rfl,hk1⟩)
    go_roundw
    case rel=>exact ⟨j+1,p,by go_num,by omega,Lib.hid (by rw[HN.out,HP.out]),by omega,own_keptNo hown hk1,hk.trans hk1⟩
    case measure=>simp[intOf];omega
   ·have HC:Hid (∀ wx,Calls Tryz.prog 144 #[.int .u8 (idsC[j]:Nat),.int .i64 k] wx fun e w'=>e=.returned (.bool true)∧Kept No wx w'):=Lib.hid (fun wx=>by have:=HF.out _ wx hx8;rw[hY]at this;exact this)
    have HN:=Lib.hid (idsT_yes k j hlc hY);clear hY hx;generalize idsC[j]=y at *
    go_wp2_with (first
     | (go_at_call 144;refine (HC.out _).mono ?_;rintro e w2 ⟨rfl,hk1⟩;have hown1:=own_keptNo hown hk1;have hc1:=(hk1.cell (p:=⟨b9,off+j,none⟩) hb9 (fun f=>f)).trans hc)
     | (at_builtin;refine wpList_append_row _ rfl _ _ _ rfl w1.heap.size 5 i0 _ 1 Tryz.underlying26 hi hz0 hz1 hz2 rfl _ _ _ rfl (hown1.alloc _) (some ⟨w2.heap.size,0,none⟩) 1 1 (B8 (bl [y])) rfl ?c1 ?c2 (by simp) (B8_one _) ?c3 ?c4 ?c5 ?_;rotate_right;intro v2 w3 hown2 hg2 hv2))
    case c1=>rw[bl_one y hx8];rfl
    case c2=>rw[bl_one y hx8];exact .of_cells (new_cells w2 _ _ _ rfl)
    case c3=>unfold maxLen;omega
    case c4=>omega
    case c5=>have:=hk1.size;simp;omega
    go_roundw
    case rel=>exact ⟨j+1,p++bl [y],by go_num,by omega,Lib.hid (by rw[HN.out,HP.out,bl_append]),by simp[bl];omega,by simpa [B8_append,bl] using hown2,((hk.trans hk1).alloc _).grown hg2 (own_no hown1)⟩
    case measure=>simp[intOf];omega
  ·have hj6:j=27:=by omega
   subst hj6;have hrow:=idRow_of (l:=idsL k) hown (by rw[HP.out];simp[bl,idsT_all]) (by rw[HP.out,idsT_all]) (idsL_lt k);have hB0:=hB0.kept hk (fun f=>f);have hB1:=hB1.kept hk (fun f=>f);have hkw:=hkw.trans hk;have hmem:=fun i h=>idsL_mem (k:=k) (i:=i) h
   have hll:(idsL k).length≤27:=idsT_len k 27;have HI9:Hid (fxId id k=(idsL k).getD (id % (idsL k).length) 0):=Lib.hid rfl;generalize idsL k=l at *;generalize hg0:w.heap.size=g0 at *;have HGE:=Lib.hid (show w.heap.size≤g0 by omega);clear hg0;obtain ⟨a9,cap,rfl,hcl⟩:=hrow;clear hown HP hr HF HI hsz hpl hi hz0 hz1 hz2 hk hlt hj;have q0:=hB0.cell 0;have q1:=hB0.cell 1;have q2:=hB0.cell 2;have q3:=hB0.cell 3;have r0:=hB1.cell 0;have r1:=hB1.cell 1;have r2:=hB1.cell 2;have r3:=hB1.cell 3;simp at q0 q1 q2 q3 r0 r1 r2 r3;have f0:=hB1.frozen 0;have f1:=hB1.frozen 1;have f2:=hB1.frozen 2;have f3:=hB1.frozen 3;have hl0:=hB0.lt;have hl1:=hB1.lt
   by_cases h0:l=[]
   ·have h1:=HTT.out
    rw[HI9.out,h0]at h1;have h2:typL 0=4:=h1;exact absurd h2 (by decide)
   ·have hlp:0 < l.length:=List.length_pos_iff.2 h0
    have hm:=Nat.mod_lt id hlp;obtain ⟨g,rfl,hg,hc⟩:=hcl (id % l.length) hm;have hq:=hmem _ (List.getElem_mem hm);have hge:l.getD (id % l.length) 0=l[id % l.length]:=by simp[List.getD,List.getElem?_eq_getElem hm]
    rw[hge]at HI9;have hN:((id:Int) % (l.length:Int)).toNat=id % l.length:=by rw[← Int.natCast_emod];rfl
    have hI0:(0:Int)≤(id:Int) % (l.length:Int):=Int.emod_nonneg _ (by omega);have hI1:(id:Int) % (l.length:Int) < (l.length:Int):=Int.emod_lt_of_pos _ (by omega);have hne:((l.length:Int) == 0)=false:=by simp;omega
    have hnz:(l.length:Int)≠0:=by omega
    clear hmem hcl hge;generalize l[id % l.length]=q at *;have hql:q < 256:=hq.2.1;have HT9:Hid (∀ wx,Calls Tryz.prog 170 #[.int .u8 q] wx fun e w'=>e=.returned (.int .i64 (typL q))∧wx=w'):=Lib.hid (fun wx=>rtype_any q wx)
    have hty:typL q=4:=by
     have h1:=HTT.out;rw[HI9.out]at h1;exact h1
    have HV0:Hid (fxV (fxId id k) n a b=fxV q n a b):=Lib.hid (by rw[HI9.out]);clear HI9 h0 hlp HTT;have HV:Hid (fxV (fxId id k) n a b=.agg #[.int .u8 q,.int .u32 ((1+n % 268435455:Nat):Int),.string ⟨#[]⟩,.string ⟨#[]⟩]):=Lib.hid (by rw[HV0.out];unfold fxV fxN fxA fxB;rw[hty];rfl);rw[hty]at HT9;clear hty HV0
    try clear h8q
    try clear h39
    try clear hn0
    go_wp2_with (first
     | (go_at_call 170;refine (HT9.out _).mono ?_;rintro e w2 ⟨rfl,rfl⟩))
    refine bodyPost_ret (v:=.agg #[.int .u8 q,.int .u32 ((1+n % 268435455:Nat):Int),.string ⟨#[]⟩,.string ⟨#[]⟩]) (by simp[results,Tryz.results123,go_sem,r0,r1,r2,r3,hl1]) rfl ⟨by rw[HV.out];try rfl,?_⟩;have hgE:=HGE.out
    repeat (first|exact hkw|refine Kept.trans ?_ hk4|refine Kept.trans ?_ hk3|refine Kept.alloc ?_ _|refine Kept.setCell ?_ (.inl (by first|omega|(show w.heap.size≤g0+1;omega)|(show w.heap.size≤wr.heap.size;omega))) _|refine Kept.drew ?_|refine Kept.drewN ?_ _)
set_option maxRecDepth 100000 in
set_option maxHeartbeats 16000000 in
theorem rfix_t5 (id n:Nat) (a b:ByteArray) (k:Int) (w:World) (h8:id < 256) (hn:n < 4294967296) (ha:a.size≤9223372036854775807) (hb:b.size≤9223372036854775807) (HTT:Hid (typL (fxId id k)=5)) :
  Calls Tryz.prog 123 #[.agg #[.int .u8 id,.int .u32 n,.string a,.string b],.int .i64 k] w fun e w'=>e=.returned (fxV (fxId id k) n a b)∧Kept No w w':=by
 obtain ⟨i0,hi,hz0,hz1,hz2⟩:=info_parts info_u8p;have cF:=fun i wx (h:i < 256)=>rfor_any i k wx h
 have HF:=Lib.hid cF;have HI:=Lib.hid (fun wx=>ids_any wx);clear cF
 go_enter Tryz.func123,Tryz.ntmps123
 go_wp2_with (go_at_call 169;refine (HI.out _).mono ?_;rintro e w1 ⟨ad,rfl,hr,hk⟩)
 have hB0:Blk w1 w.heap.size 123 #[.int .u8 id,.int .u32 n,.string a,.string b]:=((Blk.new w _ _).alloc _).kept hk (fun f=>f)
 have hB1:Blk w1 (w.heap.size+1) 123 #[.int .u8 0,.int .u32 0,.string ⟨#[]⟩,.string ⟨#[]⟩]:=by
  have h:=(Blk.new _ _ _).kept hk (fun f=>f);simpa using h
 have hkw:Kept No w w1:=(((Kept.refl No w).alloc _).alloc _).trans hk;clear hk
 go_loopw [5,7] (fun s i wr=>∃ (j:Nat) (p:List UInt8),i=.int .i64 j∧j≤27∧Hid (p=bl (idsT k j))∧p.length≤j∧wr.ownsRow w1.heap.size 5 1 s p.length (B8 p)∧Kept No w1 wr) (fun _ i _=>27 - (intOf i).toNat)
 case atStart=>exact ⟨0,[],rfl,by omega,Lib.hid rfl,by simp,World.ownsRow_nil _ _ _ _,Kept.refl _ _⟩
 case round =>
  obtain ⟨j,p,rfl,hj,HP,hpl,hown,hk⟩:=hrel;have hsz:=hk.size
  by_cases hlt:j < 27
  ·have hjI:(j:Int) < 27:=by omega
   have hlc:j < idsC.length:=hlt;obtain ⟨b9,off,rfl,hb9,hc⟩:=(hr.keptNo hk).at_ (k:=j) (by simpa [nats] using hlc);have hx:(nats idsC)[j]'(by simpa [nats] using hlc)=.int .u8 idsC[j]:=by simp[nats]
   rw[hx]at hc;have hx8:idsC[j] < 256:=(idsC_fin _ (List.getElem_mem hlc)).2.1;rcases hY:forB idsC[j] k with _|_
   ·have HC:Hid (∀ wx,Calls Tryz.prog 144 #[.int .u8 (idsC[j]:Nat),.int .i64 k] wx fun e w'=>e=.returned (.bool false)∧Kept No wx w'):=Lib.hid (fun wx=>by have:=HF.out _ wx hx8;rw[hY]at this;exact this)
    have HN:=Lib.hid (idsT_no k j hlc hY);clear hY hx;generalize idsC[j]=y at *
    go_wp2_with (go_at_call 144;refine (HC.out _).mono ?_;rintro e w2 ⟨rfl,hk1⟩)
    go_roundw
    case rel=>exact ⟨j+1,p,by go_num,by omega,Lib.hid (by rw[HN.out,HP.out]),by omega,own_keptNo hown hk1,hk.trans hk1⟩
    case measure=>simp[intOf];omega
   ·have HC:Hid (∀ wx,Calls Tryz.prog 144 #[.int .u8 (idsC[j]:Nat),.int .i64 k] wx fun e w'=>e=.returned (.bool true)∧Kept No wx w'):=Lib.hid (fun wx=>by have:=HF.out _ wx hx8;rw[hY]at this;exact this)
    have HN:=Lib.hid (idsT_yes k j hlc hY);clear hY hx;generalize idsC[j]=y at *
    go_wp2_with (first
     | (go_at_call 144;refine (HC.out _).mono ?_;rintro e w2 ⟨rfl,hk1⟩;have hown1:=own_keptNo hown hk1;have hc1:=(hk1.cell (p:=⟨b9,off+j,none⟩) hb9 (fun f=>f)).trans hc)
     | (at_builtin;refine wpList_append_row _ rfl _ _ _ rfl w1.heap.size 5 i0 _ 1 Tryz.underlying26 hi hz0 hz1 hz2 rfl _ _ _ rfl (hown1.alloc _) (some ⟨w2.heap.size,0,none⟩) 1 1 (B8 (bl [y])) rfl ?c1 ?c2 (by simp) (B8_one _) ?c3 ?c4 ?c5 ?_;rotate_right;intro v2 w3 hown2 hg2 hv2))
    case c1=>rw[bl_one y hx8];rfl
    case c2=>rw[bl_one y hx8];exact .of_cells (new_cells w2 _ _ _ rfl)
    case c3=>unfold maxLen;omega
    case c4=>omega
    case c5=>have:=hk1.size;simp;omega
    go_roundw
    case rel=>exact ⟨j+1,p++bl [y],by go_num,by omega,Lib.hid (by rw[HN.out,HP.out,bl_append]),by simp[bl];omega,by simpa [B8_append,bl] using hown2,((hk.trans hk1).alloc _).grown hg2 (own_no hown1)⟩
    case measure=>simp[intOf];omega
  ·have hj6:j=27:=by omega
   subst hj6;have hrow:=idRow_of (l:=idsL k) hown (by rw[HP.out];simp[bl,idsT_all]) (by rw[HP.out,idsT_all]) (idsL_lt k);have hB0:=hB0.kept hk (fun f=>f);have hB1:=hB1.kept hk (fun f=>f);have hkw:=hkw.trans hk;have hmem:=fun i h=>idsL_mem (k:=k) (i:=i) h
   have hll:(idsL k).length≤27:=idsT_len k 27;have HI9:Hid (fxId id k=(idsL k).getD (id % (idsL k).length) 0):=Lib.hid rfl;generalize idsL k=l at *;generalize hg0:w.heap.size=g0 at *;have HGE:=Lib.hid (show w.heap.size≤g0 by omega);clear hg0;obtain ⟨a9,cap,rfl,hcl⟩:=hrow;clear hown HP hr HF HI hsz hpl hi hz0 hz1 hz2 hk hlt hj;have q0:=hB0.cell 0;have q1:=hB0.cell 1;have q2:=hB0.cell 2;have q3:=hB0.cell 3;have r0:=hB1.cell 0;have r1:=hB1.cell 1;have r2:=hB1.cell 2;have r3:=hB1.cell 3;simp at q0 q1 q2 q3 r0 r1 r2 r3;have f0:=hB1.frozen 0;have f1:=hB1.frozen 1;have f2:=hB1.frozen 2;have f3:=hB1.frozen 3;have hl0:=hB0.lt;have hl1:=hB1.lt
   by_cases h0:l=[]
   ·have h1:=HTT.out
    rw[HI9.out,h0]at h1;have h2:typL 0=5:=h1;exact absurd h2 (by decide)
   ·have hlp:0 < l.length:=List.length_pos_iff.2 h0
    have hm:=Nat.mod_lt id hlp;obtain ⟨g,rfl,hg,hc⟩:=hcl (id % l.length) hm;have hq:=hmem _ (List.getElem_mem hm);have hge:l.getD (id % l.length) 0=l[id % l.length]:=by simp[List.getD,List.getElem?_eq_getElem hm]
    rw[hge]at HI9;have hN:((id:Int) % (l.length:Int)).toNat=id % l.length:=by rw[← Int.natCast_emod];rfl
    have hI0:(0:Int)≤(id:Int) % (l.length:Int):=Int.emod_nonneg _ (by omega);have hI1:(id:Int) % (l.length:Int) < (l.length:Int):=Int.emod_lt_of_pos _ (by omega);have hne:((l.length:Int) == 0)=false:=by simp;omega
    have hnz:(l.length:Int)≠0:=by omega
    clear hmem hcl hge;generalize l[id % l.length]=q at *;have hql:q < 256:=hq.2.1;have HT9:Hid (∀ wx,Calls Tryz.prog 170 #[.int .u8 q] wx fun e w'=>e=.returned (.int .i64 (typL q))∧wx=w'):=Lib.hid (fun wx=>rtype_any q wx)
    have hty:typL q=5:=by
     have h1:=HTT.out;rw[HI9.out]at h1;exact h1
    have HV0:Hid (fxV (fxId id k) n a b=fxV q n a b):=Lib.hid (by rw[HI9.out]);clear HI9 h0 hlp HTT;have hws:=hkw.size;have hx0:g0≠wr.heap.size:=by omega
    have hx1:g0+1≠wr.heap.size:=by omega
    have hb:(((q:Nat):Int) == 8)=decide (q=8):=by
     by_cases h:q=8<;>simp[h] ;omega
    by_cases h8q:q=8
    ·rw[decide_eq_true h8q]at hb
     have HV:Hid (fxV (fxId id k) n a b=.agg #[.int .u8 q,.int .u32 ((0:Nat):Int),.string (tfixS a),.string ⟨#[]⟩]):=Lib.hid (by rw[HV0.out];unfold fxV fxN fxA fxB;rw[hty];simp[h8q]);rw[hty]at HT9;clear hty HV0
     try clear h8q
     try clear h39
     try clear hn0
     go_wp2_with (first
      | (go_at_call 170;refine (HT9.out _).mono ?_;rintro e w2 ⟨rfl,rfl⟩)
      | (go_at_call 57;refine (fix_any a _ ha).mono ?_;rintro e w3 ⟨rfl,hk3⟩;have hC0:=(hB0.alloc _).kept hk3 (fun f=>f);have hC1:=(hB1.alloc _).kept hk3 (fun f=>f);have hC8:=(Blk.new wr _ _).kept hk3 (fun f=>f);have p2:=hC0.cell 2;have p3:=hC0.cell 3;have s0:=hC1.cell 0;have s1:=hC1.cell 1;have s2:=hC1.cell 2;have s3:=hC1.cell 3;have e0:=hC8.cell 0;have e1:=hC8.cell 1;have e2:=hC8.cell 2;have e3:=hC8.cell 3;simp at p2 p3 s0 s1 s2 s3 e0 e1 e2 e3;have sf0:=hC1.frozen 0;have sf1:=hC1.frozen 1;have sf2:=hC1.frozen 2;have sf3:=hC1.frozen 3;have ef2:=hC8.frozen 2;have ef3:=hC8.frozen 3;have hm0:=hC0.lt;have hm1:=hC1.lt;have hm8:=hC8.lt)
      | (go_at_call 58;refine (tfix_any a _ ha).mono ?_;rintro e w4 ⟨rfl,hk4⟩;have hD1:=(hC1.far (p:=⟨wr.heap.size,2,none⟩) (by simp;omega) _).kept hk4 (fun f=>f);have hD8:=(hC8.set_ 2 _).kept hk4 (fun f=>f);have t0:=hD1.cell 0;have t1:=hD1.cell 1;have t2:=hD1.cell 2;have t3:=hD1.cell 3;have d0:=hD8.cell 0;have d1:=hD8.cell 1;have d2:=hD8.cell 2;have d3:=hD8.cell 3;simp at t0 t1 t2 t3 d0 d1 d2 d3;have tf0:=hD1.frozen 0;have tf1:=hD1.frozen 1;have tf2:=hD1.frozen 2;have tf3:=hD1.frozen 3;have df2:=hD8.frozen 2;have hm41:=hD1.lt;have hm48:=hD8.lt))
     refine bodyPost_ret (v:=.agg #[.int .u8 q,.int .u32 ((0:Nat):Int),.string (tfixS a),.string ⟨#[]⟩]) (by simp[results,Tryz.results123,go_sem,r0,r1,r2,r3,hl1,s0,s1,s2,s3,t0,t1,t2,t3,hm1,hm8,hm41,hm48]) rfl ⟨by rw[HV.out];try rfl,?_⟩;have hgE:=HGE.out
     repeat (first|exact hkw|refine Kept.trans ?_ hk4|refine Kept.trans ?_ hk3|refine Kept.alloc ?_ _|refine Kept.setCell ?_ (.inl (by first|omega|(show w.heap.size≤g0+1;omega)|(show w.heap.size≤wr.heap.size;omega))) _|refine Kept.drew ?_|refine Kept.drewN ?_ _)
    ·rw[decide_eq_false h8q]at hb
     have HV:Hid (fxV (fxId id k) n a b=.agg #[.int .u8 q,.int .u32 ((0:Nat):Int),.string (fixS a),.string ⟨#[]⟩]):=Lib.hid (by rw[HV0.out];unfold fxV fxN fxA fxB;rw[hty];simp[h8q]);rw[hty]at HT9;clear hty HV0
     try clear h8q
     try clear h39
     try clear hn0
     go_wp2_with (first
      | (go_at_call 170;refine (HT9.out _).mono ?_;rintro e w2 ⟨rfl,rfl⟩)
      | (go_at_call 57;refine (fix_any a _ ha).mono ?_;rintro e w3 ⟨rfl,hk3⟩;have hC0:=(hB0.alloc _).kept hk3 (fun f=>f);have hC1:=(hB1.alloc _).kept hk3 (fun f=>f);have hC8:=(Blk.new wr _ _).kept hk3 (fun f=>f);have p2:=hC0.cell 2;have p3:=hC0.cell 3;have s0:=hC1.cell 0;have s1:=hC1.cell 1;have s2:=hC1.cell 2;have s3:=hC1.cell 3;have e0:=hC8.cell 0;have e1:=hC8.cell 1;have e2:=hC8.cell 2;have e3:=hC8.cell 3;simp at p2 p3 s0 s1 s2 s3 e0 e1 e2 e3;have sf0:=hC1.frozen 0;have sf1:=hC1.frozen 1;have sf2:=hC1.frozen 2;have sf3:=hC1.frozen 3;have ef2:=hC8.frozen 2;have ef3:=hC8.frozen 3;have hm0:=hC0.lt;have hm1:=hC1.lt;have hm8:=hC8.lt))
     refine bodyPost_ret (v:=.agg #[.int .u8 q,.int .u32 ((0:Nat):Int),.string (fixS a),.string ⟨#[]⟩]) (by simp[results,Tryz.results123,go_sem,r0,r1,r2,r3,hl1,s0,s1,s2,s3,hm1,hm8]) rfl ⟨by rw[HV.out];try rfl,?_⟩;have hgE:=HGE.out
     repeat (first|exact hkw|refine Kept.trans ?_ hk4|refine Kept.trans ?_ hk3|refine Kept.alloc ?_ _|refine Kept.setCell ?_ (.inl (by first|omega|(show w.heap.size≤g0+1;omega)|(show w.heap.size≤wr.heap.size;omega))) _|refine Kept.drew ?_|refine Kept.drewN ?_ _)
set_option maxRecDepth 100000 in
set_option maxHeartbeats 16000000 in
theorem rfix_t6 (id n:Nat) (a b:ByteArray) (k:Int) (w:World) (h8:id < 256) (hn:n < 4294967296) (ha:a.size≤9223372036854775807) (hb:b.size≤9223372036854775807) (HTT:Hid (typL (fxId id k)=6)) :
  Calls Tryz.prog 123 #[.agg #[.int .u8 id,.int .u32 n,.string a,.string b],.int .i64 k] w fun e w'=>e=.returned (fxV (fxId id k) n a b)∧Kept No w w':=by
 obtain ⟨i0,hi,hz0,hz1,hz2⟩:=info_parts info_u8p;have cF:=fun i wx (h:i < 256)=>rfor_any i k wx h
 have HF:=Lib.hid cF;have HI:=Lib.hid (fun wx=>ids_any wx);clear cF
 go_enter Tryz.func123,Tryz.ntmps123
 go_wp2_with (go_at_call 169;refine (HI.out _).mono ?_;rintro e w1 ⟨ad,rfl,hr,hk⟩)
 have hB0:Blk w1 w.heap.size 123 #[.int .u8 id,.int .u32 n,.string a,.string b]:=((Blk.new w _ _).alloc _).kept hk (fun f=>f)
 have hB1:Blk w1 (w.heap.size+1) 123 #[.int .u8 0,.int .u32 0,.string ⟨#[]⟩,.string ⟨#[]⟩]:=by
  have h:=(Blk.new _ _ _).kept hk (fun f=>f);simpa using h
 have hkw:Kept No w w1:=(((Kept.refl No w).alloc _).alloc _).trans hk;clear hk
 go_loopw [5,7] (fun s i wr=>∃ (j:Nat) (p:List UInt8),i=.int .i64 j∧j≤27∧Hid (p=bl (idsT k j))∧p.length≤j∧wr.ownsRow w1.heap.size 5 1 s p.length (B8 p)∧Kept No w1 wr) (fun _ i _=>27 - (intOf i).toNat)
 case atStart=>exact ⟨0,[],rfl,by omega,Lib.hid rfl,by simp,World.ownsRow_nil _ _ _ _,Kept.refl _ _⟩
 case round =>
  obtain ⟨j,p,rfl,hj,HP,hpl,hown,hk⟩:=hrel;have hsz:=hk.size
  by_cases hlt:j < 27
  ·have hjI:(j:Int) < 27:=by omega
   have hlc:j < idsC.length:=hlt;obtain ⟨b9,off,rfl,hb9,hc⟩:=(hr.keptNo hk).at_ (k:=j) (by simpa [nats] using hlc);have hx:(nats idsC)[j]'(by simpa [nats] using hlc)=.int .u8 idsC[j]:=by simp[nats]
   rw[hx]at hc;have hx8:idsC[j] < 256:=(idsC_fin _ (List.getElem_mem hlc)).2.1;rcases hY:forB idsC[j] k with _|_
   ·have HC:Hid (∀ wx,Calls Tryz.prog 144 #[.int .u8 (idsC[j]:Nat),.int .i64 k] wx fun e w'=>e=.returned (.bool false)∧Kept No wx w'):=Lib.hid (fun wx=>by have:=HF.out _ wx hx8;rw[hY]at this;exact this)
    have HN:=Lib.hid (idsT_no k j hlc hY);clear hY hx;generalize idsC[j]=y at *
    go_wp2_with (go_at_call 144;refine (HC.out _).mono ?_;rintro e w2 ⟨rfl,hk1⟩)
    go_roundw
    case rel=>exact ⟨j+1,p,by go_num,by omega,Lib.hid (by rw[HN.out,HP.out]),by omega,own_keptNo hown hk1,hk.trans hk1⟩
    case measure=>simp[intOf];omega
   ·have HC:Hid (∀ wx,Calls Tryz.prog 144 #[.int .u8 (idsC[j]:Nat),.int .i64 k] wx fun e w'=>e=.returned (.bool true)∧Kept No wx w'):=Lib.hid (fun wx=>by have:=HF.out _ wx hx8;rw[hY]at this;exact this)
    have HN:=Lib.hid (idsT_yes k j hlc hY);clear hY hx;generalize idsC[j]=y at *
    go_wp2_with (first
     | (go_at_call 144;refine (HC.out _).mono ?_;rintro e w2 ⟨rfl,hk1⟩;have hown1:=own_keptNo hown hk1;have hc1:=(hk1.cell (p:=⟨b9,off+j,none⟩) hb9 (fun f=>f)).trans hc)
     | (at_builtin;refine wpList_append_row _ rfl _ _ _ rfl w1.heap.size 5 i0 _ 1 Tryz.underlying26 hi hz0 hz1 hz2 rfl _ _ _ rfl (hown1.alloc _) (some ⟨w2.heap.size,0,none⟩) 1 1 (B8 (bl [y])) rfl ?c1 ?c2 (by simp) (B8_one _) ?c3 ?c4 ?c5 ?_;rotate_right;intro v2 w3 hown2 hg2 hv2))
    case c1=>rw[bl_one y hx8];rfl
    case c2=>rw[bl_one y hx8];exact .of_cells (new_cells w2 _ _ _ rfl)
    case c3=>unfold maxLen;omega
    case c4=>omega
    case c5=>have:=hk1.size;simp;omega
    go_roundw
    case rel=>exact ⟨j+1,p++bl [y],by go_num,by omega,Lib.hid (by rw[HN.out,HP.out,bl_append]),by simp[bl];omega,by simpa [B8_append,bl] using hown2,((hk.trans hk1).alloc _).grown hg2 (own_no hown1)⟩
    case measure=>simp[intOf];omega
  ·have hj6:j=27:=by omega
   subst hj6;have hrow:=idRow_of (l:=idsL k) hown (by rw[HP.out];simp[bl,idsT_all]) (by rw[HP.out,idsT_all]) (idsL_lt k);have hB0:=hB0.kept hk (fun f=>f);have hB1:=hB1.kept hk (fun f=>f);have hkw:=hkw.trans hk;have hmem:=fun i h=>idsL_mem (k:=k) (i:=i) h
   have hll:(idsL k).length≤27:=idsT_len k 27;have HI9:Hid (fxId id k=(idsL k).getD (id % (idsL k).length) 0):=Lib.hid rfl;generalize idsL k=l at *;generalize hg0:w.heap.size=g0 at *;have HGE:=Lib.hid (show w.heap.size≤g0 by omega);clear hg0;obtain ⟨a9,cap,rfl,hcl⟩:=hrow;clear hown HP hr HF HI hsz hpl hi hz0 hz1 hz2 hk hlt hj;have q0:=hB0.cell 0;have q1:=hB0.cell 1;have q2:=hB0.cell 2;have q3:=hB0.cell 3;have r0:=hB1.cell 0;have r1:=hB1.cell 1;have r2:=hB1.cell 2;have r3:=hB1.cell 3;simp at q0 q1 q2 q3 r0 r1 r2 r3;have f0:=hB1.frozen 0;have f1:=hB1.frozen 1;have f2:=hB1.frozen 2;have f3:=hB1.frozen 3;have hl0:=hB0.lt;have hl1:=hB1.lt
   by_cases h0:l=[]
   ·have h1:=HTT.out
    rw[HI9.out,h0]at h1;have h2:typL 0=6:=h1;exact absurd h2 (by decide)
   ·have hlp:0 < l.length:=List.length_pos_iff.2 h0
    have hm:=Nat.mod_lt id hlp;obtain ⟨g,rfl,hg,hc⟩:=hcl (id % l.length) hm;have hq:=hmem _ (List.getElem_mem hm);have hge:l.getD (id % l.length) 0=l[id % l.length]:=by simp[List.getD,List.getElem?_eq_getElem hm]
    rw[hge]at HI9;have hN:((id:Int) % (l.length:Int)).toNat=id % l.length:=by rw[← Int.natCast_emod];rfl
    have hI0:(0:Int)≤(id:Int) % (l.length:Int):=Int.emod_nonneg _ (by omega);have hI1:(id:Int) % (l.length:Int) < (l.length:Int):=Int.emod_lt_of_pos _ (by omega);have hne:((l.length:Int) == 0)=false:=by simp;omega
    have hnz:(l.length:Int)≠0:=by omega
    clear hmem hcl hge;generalize l[id % l.length]=q at *;have hql:q < 256:=hq.2.1;have HT9:Hid (∀ wx,Calls Tryz.prog 170 #[.int .u8 q] wx fun e w'=>e=.returned (.int .i64 (typL q))∧wx=w'):=Lib.hid (fun wx=>rtype_any q wx)
    have hty:typL q=6:=by
     have h1:=HTT.out;rw[HI9.out]at h1;exact h1
    have HV0:Hid (fxV (fxId id k) n a b=fxV q n a b):=Lib.hid (by rw[HI9.out]);clear HI9 h0 hlp HTT;have hmn:(min (a.size:Int) 9).toNat=min a.size 9:=by omega
    have HV:Hid (fxV (fxId id k) n a b=.agg #[.int .u8 q,.int .u32 ((0:Nat):Int),.string (a.extract 0 (min a.size 9)),.string ⟨#[]⟩]):=Lib.hid (by rw[HV0.out];unfold fxV fxN fxA fxB;rw[hty];rfl);rw[hty]at HT9;clear hty HV0
    try clear h8q
    try clear h39
    try clear hn0
    go_wp2_with (first
     | (go_at_call 170;refine (HT9.out _).mono ?_;rintro e w2 ⟨rfl,rfl⟩))
    refine bodyPost_ret (v:=.agg #[.int .u8 q,.int .u32 ((0:Nat):Int),.string (a.extract 0 (min a.size 9)),.string ⟨#[]⟩]) (by simp[results,Tryz.results123,go_sem,r0,r1,r2,r3,hl1,hmn]) rfl ⟨by rw[HV.out];try rfl,?_⟩;have hgE:=HGE.out
    repeat (first|exact hkw|refine Kept.trans ?_ hk4|refine Kept.trans ?_ hk3|refine Kept.alloc ?_ _|refine Kept.setCell ?_ (.inl (by first|omega|(show w.heap.size≤g0+1;omega)|(show w.heap.size≤wr.heap.size;omega))) _|refine Kept.drew ?_|refine Kept.drewN ?_ _)
set_option maxRecDepth 100000 in
set_option maxHeartbeats 16000000 in
theorem rfix_t7 (id n:Nat) (a b:ByteArray) (k:Int) (w:World) (h8:id < 256) (hn:n < 4294967296) (ha:a.size≤9223372036854775807) (hb:b.size≤9223372036854775807) (HTT:Hid (typL (fxId id k)=7)) :
  Calls Tryz.prog 123 #[.agg #[.int .u8 id,.int .u32 n,.string a,.string b],.int .i64 k] w fun e w'=>e=.returned (fxV (fxId id k) n a b)∧Kept No w w':=by
 obtain ⟨i0,hi,hz0,hz1,hz2⟩:=info_parts info_u8p;have cF:=fun i wx (h:i < 256)=>rfor_any i k wx h
 have HF:=Lib.hid cF;have HI:=Lib.hid (fun wx=>ids_any wx);clear cF
 go_enter Tryz.func123,Tryz.ntmps123
 go_wp2_with (go_at_call 169;refine (HI.out _).mono ?_;rintro e w1 ⟨ad,rfl,hr,hk⟩)
 have hB0:Blk w1 w.heap.size 123 #[.int .u8 id,.int .u32 n,.string a,.string b]:=((Blk.new w _ _).alloc _).kept hk (fun f=>f)
 have hB1:Blk w1 (w.heap.size+1) 123 #[.int .u8 0,.int .u32 0,.string ⟨#[]⟩,.string ⟨#[]⟩]:=by
  have h:=(Blk.new _ _ _).kept hk (fun f=>f);simpa using h
 have hkw:Kept No w w1:=(((Kept.refl No w).alloc _).alloc _).trans hk;clear hk
 go_loopw [5,7] (fun s i wr=>∃ (j:Nat) (p:List UInt8),i=.int .i64 j∧j≤27∧Hid (p=bl (idsT k j))∧p.length≤j∧wr.ownsRow w1.heap.size 5 1 s p.length (B8 p)∧Kept No w1 wr) (fun _ i _=>27 - (intOf i).toNat)
 case atStart=>exact ⟨0,[],rfl,by omega,Lib.hid rfl,by simp,World.ownsRow_nil _ _ _ _,Kept.refl _ _⟩
 case round =>
  obtain ⟨j,p,rfl,hj,HP,hpl,hown,hk⟩:=hrel;have hsz:=hk.size
  by_cases hlt:j < 27
  ·have hjI:(j:Int) < 27:=by omega
   have hlc:j < idsC.length:=hlt;obtain ⟨b9,off,rfl,hb9,hc⟩:=(hr.keptNo hk).at_ (k:=j) (by simpa [nats] using hlc);have hx:(nats idsC)[j]'(by simpa [nats] using hlc)=.int .u8 idsC[j]:=by simp[nats]
   rw[hx]at hc;have hx8:idsC[j] < 256:=(idsC_fin _ (List.getElem_mem hlc)).2.1;rcases hY:forB idsC[j] k with _|_
   ·have HC:Hid (∀ wx,Calls Tryz.prog 144 #[.int .u8 (idsC[j]:Nat),.int .i64 k] wx fun e w'=>e=.returned (.bool false)∧Kept No wx w'):=Lib.hid (fun wx=>by have:=HF.out _ wx hx8;rw[hY]at this;exact this)
    have HN:=Lib.hid (idsT_no k j hlc hY);clear hY hx;generalize idsC[j]=y at *
    go_wp2_with (go_at_call 144;refine (HC.out _).mono ?_;rintro e w2 ⟨rfl,hk1⟩)
    go_roundw
    case rel=>exact ⟨j+1,p,by go_num,by omega,Lib.hid (by rw[HN.out,HP.out]),by omega,own_keptNo hown hk1,hk.trans hk1⟩
    case measure=>simp[intOf];omega
   ·have HC:Hid (∀ wx,Calls Tryz.prog 144 #[.int .u8 (idsC[j]:Nat),.int .i64 k] wx fun e w'=>e=.returned (.bool true)∧Kept No wx w'):=Lib.hid (fun wx=>by have:=HF.out _ wx hx8;rw[hY]at this;exact this)
    have HN:=Lib.hid (idsT_yes k j hlc hY);clear hY hx;generalize idsC[j]=y at *
    go_wp2_with (first
     | (go_at_call 144;refine (HC.out _).mono ?_;rintro e w2 ⟨rfl,hk1⟩;have hown1:=own_keptNo hown hk1;have hc1:=(hk1.cell (p:=⟨b9,off+j,none⟩) hb9 (fun f=>f)).trans hc)
     | (at_builtin;refine wpList_append_row _ rfl _ _ _ rfl w1.heap.size 5 i0 _ 1 Tryz.underlying26 hi hz0 hz1 hz2 rfl _ _ _ rfl (hown1.alloc _) (some ⟨w2.heap.size,0,none⟩) 1 1 (B8 (bl [y])) rfl ?c1 ?c2 (by simp) (B8_one _) ?c3 ?c4 ?c5 ?_;rotate_right;intro v2 w3 hown2 hg2 hv2))
    case c1=>rw[bl_one y hx8];rfl
    case c2=>rw[bl_one y hx8];exact .of_cells (new_cells w2 _ _ _ rfl)
    case c3=>unfold maxLen;omega
    case c4=>omega
    case c5=>have:=hk1.size;simp;omega
    go_roundw
    case rel=>exact ⟨j+1,p++bl [y],by go_num,by omega,Lib.hid (by rw[HN.out,HP.out,bl_append]),by simp[bl];omega,by simpa [B8_append,bl] using hown2,((hk.trans hk1).alloc _).grown hg2 (own_no hown1)⟩
    case measure=>simp[intOf];omega
  ·have hj6:j=27:=by omega
   subst hj6;have hrow:=idRow_of (l:=idsL k) hown (by rw[HP.out];simp[bl,idsT_all]) (by rw[HP.out,idsT_all]) (idsL_lt k);have hB0:=hB0.kept hk (fun f=>f);have hB1:=hB1.kept hk (fun f=>f);have hkw:=hkw.trans hk;have hmem:=fun i h=>idsL_mem (k:=k) (i:=i) h
   have hll:(idsL k).length≤27:=idsT_len k 27;have HI9:Hid (fxId id k=(idsL k).getD (id % (idsL k).length) 0):=Lib.hid rfl;generalize idsL k=l at *;generalize hg0:w.heap.size=g0 at *;have HGE:=Lib.hid (show w.heap.size≤g0 by omega);clear hg0;obtain ⟨a9,cap,rfl,hcl⟩:=hrow;clear hown HP hr HF HI hsz hpl hi hz0 hz1 hz2 hk hlt hj;have q0:=hB0.cell 0;have q1:=hB0.cell 1;have q2:=hB0.cell 2;have q3:=hB0.cell 3;have r0:=hB1.cell 0;have r1:=hB1.cell 1;have r2:=hB1.cell 2;have r3:=hB1.cell 3;simp at q0 q1 q2 q3 r0 r1 r2 r3;have f0:=hB1.frozen 0;have f1:=hB1.frozen 1;have f2:=hB1.frozen 2;have f3:=hB1.frozen 3;have hl0:=hB0.lt;have hl1:=hB1.lt
   by_cases h0:l=[]
   ·have h1:=HTT.out
    rw[HI9.out,h0]at h1;have h2:typL 0=7:=h1;exact absurd h2 (by decide)
   ·have hlp:0 < l.length:=List.length_pos_iff.2 h0
    have hm:=Nat.mod_lt id hlp;obtain ⟨g,rfl,hg,hc⟩:=hcl (id % l.length) hm;have hq:=hmem _ (List.getElem_mem hm);have hge:l.getD (id % l.length) 0=l[id % l.length]:=by simp[List.getD,List.getElem?_eq_getElem hm]
    rw[hge]at HI9;have hN:((id:Int) % (l.length:Int)).toNat=id % l.length:=by rw[← Int.natCast_emod];rfl
    have hI0:(0:Int)≤(id:Int) % (l.length:Int):=Int.emod_nonneg _ (by omega);have hI1:(id:Int) % (l.length:Int) < (l.length:Int):=Int.emod_lt_of_pos _ (by omega);have hne:((l.length:Int) == 0)=false:=by simp;omega
    have hnz:(l.length:Int)≠0:=by omega
    clear hmem hcl hge;generalize l[id % l.length]=q at *;have hql:q < 256:=hq.2.1;have HT9:Hid (∀ wx,Calls Tryz.prog 170 #[.int .u8 q] wx fun e w'=>e=.returned (.int .i64 (typL q))∧wx=w'):=Lib.hid (fun wx=>rtype_any q wx)
    have hty:typL q=7:=by
     have h1:=HTT.out;rw[HI9.out]at h1;exact h1
    have HV0:Hid (fxV (fxId id k) n a b=fxV q n a b):=Lib.hid (by rw[HI9.out]);clear HI9 h0 hlp HTT;have hws:=hkw.size;have hx0:g0≠wr.heap.size:=by omega
    have hx1:g0+1≠wr.heap.size:=by omega
    have HV:Hid (fxV (fxId id k) n a b=.agg #[.int .u8 q,.int .u32 ((0:Nat):Int),.string (fixS a),.string (fixS b)]):=Lib.hid (by rw[HV0.out];unfold fxV fxN fxA fxB;rw[hty];rfl);rw[hty]at HT9;clear hty HV0
    try clear h8q
    try clear h39
    try clear hn0
    go_wp2_with (first
     | (go_at_call 170;refine (HT9.out _).mono ?_;rintro e w2 ⟨rfl,rfl⟩))
    refine wp_region_held_drew (S:=(fun wx=>wx.cell? ⟨g0,2,none⟩=some (.string a)∧wx.cell? ⟨g0,3,none⟩=some (.string b))) (by kernel_rfl) ?_ (fun hHeld=>?_)
    ·exact ⟨(hB0.alloc _).drew.cell 2,(hB0.alloc _).drew.cell 3⟩
    refine wtv (i:=0) (v:=?_) rfl (λwz9 hSw=>?_) ?_;rotate_left;(·(try dsimp only at hSw);go_simp;try with_reducible rfl);go_simp
    refine wtv (i:=3) (v:=?_) rfl (λwz9 hSw=>?_) ?_;rotate_left;(·(try dsimp only at hSw);go_simp;try with_reducible rfl);go_simp
    refine wtv (i:=1) (v:=?_) rfl (λwz9 hSw=>?_) ?_;rotate_left;(·(try dsimp only at hSw);go_simp;try with_reducible rfl);go_simp
    refine wtv (i:=4) (v:=?_) rfl (λwz9 hSw=>?_) ?_;rotate_left;(·(try dsimp only at hSw);go_simp;try with_reducible rfl);go_simp
    refine wpAnyH_ready (rs:=[2]) (by kernel_rfl) (by simp) ?_;refine AllReadyH.cons rfl (fun K9 hK9=>?_) AllReadyH.nil
    go_simp
    go_wp2_with (go_at_call 57;refine (fix_any a _ ha).mono ?_;rintro e w3 ⟨rfl,hk3⟩;have hC0:=((hB0.alloc _).drew).kept hk3 (fun f=>f);have hC1:=((hB1.alloc _).drew).kept hk3 (fun f=>f);have hC8:=((Blk.new wr _ _).drew).kept hk3 (fun f=>f))
    refine hK9.out _ _ ?_ (fun hHeld=>?_)
    ·exact ⟨hC0.cell 2,hC0.cell 3⟩
    clear hK9 K9;refine wtk (i:=6) (v:=?vvz6) rfl (Or.inl ⟨by rfl,?hhz6⟩) (by assumption) ?rrz6
    case hhz6=>(intro wz9 hSw;(try dsimp only at hSw);go_simp;try with_reducible rfl)
    go_simp
    refine wpAnyH_ready (rs:=[5]) (by kernel_rfl) (by simp) ?_;refine AllReadyH.cons rfl (fun K9 hK9=>?_) AllReadyH.nil
    go_simp
    go_wp2_with (go_at_call 57;refine (fix_any b _ hb).mono ?_;rintro e w4 ⟨rfl,hk4⟩;have hD0:=hC0.kept hk4 (fun f=>f);have hD1:=hC1.kept hk4 (fun f=>f);have hD8:=hC8.kept hk4 (fun f=>f);have t0:=hD1.cell 0;have t1:=hD1.cell 1;have t2:=hD1.cell 2;have t3:=hD1.cell 3;have d0:=hD8.cell 0;have d1:=hD8.cell 1;have d2:=hD8.cell 2;have d3:=hD8.cell 3;simp at t0 t1 t2 t3 d0 d1 d2 d3;have tf0:=hD1.frozen 0;have tf1:=hD1.frozen 1;have tf2:=hD1.frozen 2;have tf3:=hD1.frozen 3;have df2:=hD8.frozen 2;have df3:=hD8.frozen 3;have hm41:=hD1.lt;have hm48:=hD8.lt)
    refine hK9.out _ _ ?_ (fun hHeld=>?_)
    ·exact ⟨hD0.cell 2,hD0.cell 3⟩
    clear hK9 K9;refine wpAnyH_ready (rs:=[7]) (by kernel_rfl) (by simp) ?_;refine AllReadyH.cons rfl (fun K9 hK9=>?_) AllReadyH.nil
    go_simp
    refine hK9.out _ _ ?_ (fun hHeld=>?_)
    ·exact ⟨(hD0.far (p:=⟨wr.heap.size,2,none⟩) hx0 _).cell 2,(hD0.far (p:=⟨wr.heap.size,2,none⟩) hx0 _).cell 3⟩
    clear hK9 K9
    go_simp
    refine wtv (i:=8) (v:=?_) rfl (λwz9 hSw=>?_) ?_;rotate_left;(·(try dsimp only at hSw);go_simp;try with_reducible rfl);go_simp
    refine wpAnyH_ready (rs:=[9]) (by kernel_rfl) (by simp) ?_;refine AllReadyH.cons rfl (fun K9 hK9=>?_) AllReadyH.nil
    go_simp
    refine hK9.out _ _ ?_ (fun hHeld=>?_)
    ·exact ⟨((hD0.far (p:=⟨wr.heap.size,2,none⟩) hx0 _).far (p:=⟨wr.heap.size,3,none⟩) hx0 _).cell 2,((hD0.far (p:=⟨wr.heap.size,2,none⟩) hx0 _).far (p:=⟨wr.heap.size,3,none⟩) hx0 _).cell 3⟩
    clear hK9 K9
    go_simp
    refine wpAnyH_done (by kernel_rfl) ?_ _
    have hE8:Blk ((w4.setCell ⟨wr.heap.size,2,none⟩ (.string (fixS a))).setCell ⟨wr.heap.size,3,none⟩ (.string (fixS b))) wr.heap.size 123 #[.int .u8 q,.int .u32 0,.string (fixS a),.string (fixS b)]:=by
     have h:=(hD8.set_ 2 (.string (fixS a))).set_ 3 (.string (fixS b));simpa using h
    have hE1:Blk ((w4.setCell ⟨wr.heap.size,2,none⟩ (.string (fixS a))).setCell ⟨wr.heap.size,3,none⟩ (.string (fixS b))) (g0+1) 123 #[.int .u8 0,.int .u32 0,.string ⟨#[]⟩,.string ⟨#[]⟩]:=(hD1.far (p:=⟨wr.heap.size,2,none⟩) hx1 _).far (p:=⟨wr.heap.size,3,none⟩) hx1 _;have hgE:=HGE.out
    have hkE:Kept No w ((w4.setCell ⟨wr.heap.size,2,none⟩ (.string (fixS a))).setCell ⟨wr.heap.size,3,none⟩ (.string (fixS b))):=by
     refine Kept.setCell (Kept.setCell ((((hkw.alloc _).drew).trans hk3).trans hk4) (.inl ?_) _) (.inl ?_) _
     ·show w.heap.size≤wr.heap.size;omega
     ·show w.heap.size≤wr.heap.size;omega
    generalize ((w4.setCell ⟨wr.heap.size,2,none⟩ (.string (fixS a))).setCell ⟨wr.heap.size,3,none⟩ (.string (fixS b)))=w5 at *;clear t0 t1 t2 t3 d0 d1 d2 d3 tf0 tf1 tf2 tf3 df2 df3 hm41 hm48 hD0 hD1 hD8 hC0 hC1 hC8 hk3 hk4 hHeld;have t0:=hE1.cell 0;have t1:=hE1.cell 1;have t2:=hE1.cell 2;have t3:=hE1.cell 3;have d0:=hE8.cell 0;have d1:=hE8.cell 1;have d2:=hE8.cell 2;have d3:=hE8.cell 3;simp at t0 t1 t2 t3 d0 d1 d2 d3;have tf0:=hE1.frozen 0;have tf1:=hE1.frozen 1;have tf2:=hE1.frozen 2;have tf3:=hE1.frozen 3;have hm41:=hE1.lt;have hm48:=hE8.lt;clear hE1 hE8
    go_wp2
    refine bodyPost_ret (v:=.agg #[.int .u8 q,.int .u32 ((0:Nat):Int),.string (fixS a),.string (fixS b)]) (by simp[results,Tryz.results123,go_sem,t0,t1,t2,t3,d0,d1,d2,d3,hm41,hm48]) rfl ⟨by rw[HV.out],?_⟩
    repeat (first|exact hkE|refine Kept.setCell ?_ (.inl (by show w.heap.size≤g0+1;omega)) _)
theorem rfix_any (id n:Nat) (a b:ByteArray) (k:Int) (w:World) (h8:id < 256) (hn:n < 4294967296) (ha:a.size≤9223372036854775807) (hb:b.size≤9223372036854775807) :
  Calls Tryz.prog 123 #[.agg #[.int .u8 id,.int .u32 n,.string a,.string b],.int .i64 k] w fun e w'=>e=.returned (fxV (fxId id k) n a b)∧Kept No w w':=by
 have ht:=typL_le (fxId id k);rcases (show typL (fxId id k)=0∨typL (fxId id k)=1∨typL (fxId id k)=2∨typL (fxId id k)=3∨typL (fxId id k)=4∨typL (fxId id k)=5∨typL (fxId id k)=6∨typL (fxId id k)=7 from by omega) with h|h|h|h|h|h|h|h
 ·exact rfix_t0 id n a b k w h8 hn ha hb (Lib.hid h)
 ·exact rfix_t1 id n a b k w h8 hn ha hb (Lib.hid h)
 ·exact rfix_t2 id n a b k w h8 hn ha hb (Lib.hid h)
 ·exact rfix_t3 id n a b k w h8 hn ha hb (Lib.hid h)
 ·exact rfix_t4 id n a b k w h8 hn ha hb (Lib.hid h)
 ·exact rfix_t5 id n a b k w h8 hn ha hb (Lib.hid h)
 ·exact rfix_t6 id n a b k w h8 hn ha hb (Lib.hid h)
 ·exact rfix_t7 id n a b k w h8 hn ha hb (Lib.hid h)
theorem fxId_mem {id:Nat} {k:Int} (h:idsL k≠[]):fxId id k∈idsL k:=by
 unfold fxId;have hl:=List.length_pos_iff.2 h;rw[List.getD_eq_getElem?_getD,List.getElem?_eq_getElem (Nat.mod_lt _ hl)];exact List.getElem_mem _
theorem fixS_ok (s:ByteArray):okText (fixS s)=true:=by
 have h1:=fixS_len s;unfold okText;rw[decide_eq_true (by omega)];show isText (fixL s.data.toList)=true;rw[isText_cnt];exact Option.isSome_iff_ne_none.2 (joins s.data.toList []).1
theorem noTexts_nil:noTexts ⟨#[]⟩ ⟨#[]⟩=true:=by decide +kernel
theorem cut9_len (a:ByteArray):(cut9 a).size≤9:=by
 unfold cut9;rw[ByteArray.size_extract];omega
theorem toList_nil:(⟨#[]⟩:ByteArray).toList.isEmpty=true:=by decide +kernel
theorem val_fin:∀ q:Fin 256,(q.1∈[1,23,25,36,37,40,41,42]→typL q.1=1)∧(q.1∈[11,33,35,39]→(typL q.1=2∨typL q.1=4∨q.1=39))∧(q.1=8→typL q.1=5)∧(typL q.1=5→q.1 ∉ [1,23,25,36,37,40,41,42]∧q.1 ∉ [11,33,35,39]):=by decide +kernel
theorem fx_value (q n:Nat) (a b:ByteArray) (hn:n < 4294967296) (hq:q < 256) (ht:1≤typL q):valueB q (fxN q n) (fxA q a) (fxB q b)=true:=by
 have ht7:=typL_le q;have hv9:=val_fin ⟨q,hq⟩;dsimp only at hv9;obtain ⟨v1,v2,v3,v4⟩:=hv9
 have hR:rightB q (fxN q n) (fxA q a) (fxB q b)=true:=by
  unfold rightB rightT fxN fxA fxB;rcases (show typL q=1∨typL q=2∨typL q=3∨typL q=4∨typL q=5∨typL q=6∨typL q=7 from by omega) with h|h|h|h|h|h|h<;>simp only[h,Nat.reduceEqDiff,if_true,if_false,ite_true,ite_false]
  ·unfold numB;rw[noTexts_nil,decide_eq_true (by omega)];rfl
  ·unfold numB;rw[noTexts_nil,decide_eq_true (by omega)];rfl
  ·unfold numB;rw[noTexts_nil,decide_eq_true (by split<;>omega)];rfl
  ·unfold numB;rw[noTexts_nil,decide_eq_true (by omega)];rfl
  ·rw[toList_nil]
   split
   ·rw[((made_fix a).vt.ok (by have:=(made_fix a).size;omega))];rfl
   ·rw[fixS_ok];rfl
  ·have h9:decide ((cut9 a).size≤65535)=true:=decide_eq_true (by have:=cut9_len a;omega)
   rw[toList_nil,h9];rfl
  ·rw[fixS_ok,fixS_ok];rfl
 unfold valueB;rw[hR,Bool.true_and];unfold valueV
 split
 ·rename_i h
  have h1:=v1 h;unfold fxN;rw[if_pos h1];exact decide_eq_true (by omega)
 ·split
  ·rename_i h
   have h1:=v2 h
   have:fxN q n≠0:=by
    unfold fxN;rcases h1 with h1|h1|h1
    ·rw[if_neg (by omega),if_pos h1];omega
    ·rw[if_neg (by omega),if_neg (by omega),if_neg (by omega),if_pos h1];omega
    ·have h3:typL q=3:=by rw[h1];decide
     rw[if_neg (by omega),if_neg (by omega),if_pos h3]
     split<;>omega
   simp[this]
  ·split
   ·rename_i h
    have h1:=v3 h;unfold fxA;rw[if_pos h1,if_pos h];exact (made_fix a).name
   ·rfl
end Go.Proofs.YtohmcfmcbibbcaaGreatDoor
