import Derived.Test.YtohmcfmcbibbcaaGreatDoorYFA
namespace Go.Proofs.YtohmcfmcbibbcaaGreatDoor
open Go.RowKit
set_option linter.unusedVariables false
set_option linter.unusedSimpArgs false
set_option maxRecDepth 100000 in
set_option maxHeartbeats 16000000 in
theorem rfix_t0 (id n:Nat) (a b:ByteArray) (k:Int) (w:World) (h8:id < 256) (hn:n < 4294967296) (ha:a.size≤9223372036854775807) (hb:b.size≤9223372036854775807) (HTT:Hid (typL (fxId id k)=0)) :
  Calls Tryz.prog 123 #[.agg #[.int .u8 id,.int .u32 n,.string a,.string b],.int .i64 k] w fun e w'=>e=.returned (fxV (fxId id k) n a b)∧Kept No w w':=by
 obtain ⟨i0,hi,hz0,hz1,hz2⟩:=info_parts info_u8p;have cF:=fun i wx (h:i < 256)=>rfor_any i k wx h
 have HF:=Lib.hid cF;have HI:=Lib.hid (fun wx=>ids_any wx);clear cF
 go_enter Tryz.func123,Tryz.ntmps123
 go_wp2_with (go_at_call 169;refine (HI.out _).mono ?_;rintro e w1 ⟨ad,rfl,hr,hk⟩)
 have hB0:Blk w1 w.heap.size 123 #[.int .u8 id,.int .u32 n,.string a,.string b]:=((Blk.new w _ _).alloc _).kept hk (fun f=>f)
 have hB1:Blk w1 (w.heap.size+1) 123 #[.int .u8 0,.int .u32 0,.string ⟨#[]⟩,.string ⟨#[]⟩]:=by
  have h:=(Blk.new _ _ _).kept hk (fun f=>f);simpa using h
 have hkw:Kept No w w1:=(((Kept.refl No w).alloc _).alloc _).trans hk;clear hk
 go_loopw [5,7] (fun s i wr=>∃ (j:Nat) (p:List UInt8),i=.int .i64 j∧j≤27∧Hid (p=bl (idsT k j))∧p.length≤j∧wr.ownsRow w1.heap.size 5 1 s p.length (B8 p)∧Kept No w1 wr) (fun _ i _=>27 - (intOf i).toNat)
 case atStart=>exact ⟨0,[],rfl,by omega,Lib.hid rfl,by simp,World.ownsRow_nil _ _ _ _,Kept.refl _ _⟩
 case round =>
  obtain ⟨j,p,rfl,hj,HP,hpl,hown,hk⟩:=hrel;have hsz:=hk.size
  by_cases hlt:j < 27
  ·have hjI:(j:Int) < 27:=by omega
   have hlc:j < idsC.length:=hlt;obtain ⟨b9,off,rfl,hb9,hc⟩:=(hr.keptNo hk).at_ (k:=j) (by simpa [nats] using hlc);have hx:(nats idsC)[j]'(by simpa [nats] using hlc)=.int .u8 idsC[j]:=by simp[nats]
   rw[hx]at hc;have hx8:idsC[j] < 256:=(idsC_fin _ (List.getElem_mem hlc)).2.1;rcases hY:forB idsC[j] k with _|_
   ·have HC:Hid (∀ wx,Calls Tryz.prog 144 #[.int .u8 (idsC[j]:Nat),.int .i64 k] wx fun e w'=>e=.returned (.bool false)∧Kept No wx w'):=Lib.hid (fun wx=>by have:=HF.out _ wx hx8;rw[hY]at this;exact this)
    have HN:=Lib.hid (idsT_no k j hlc hY);clear hY hx;generalize idsC[j]=y at *
    go_wp2_with (go_at_call 144;refine (HC.out _).mono ?_;rintro e w2 ⟨rfl,hk1⟩)
    go_roundw
    case rel=>exact ⟨j+1,p,by go_num,by omega,Lib.hid (by rw[HN.out,HP.out]),by omega,own_keptNo hown hk1,hk.trans hk1⟩
    case measure=>simp[intOf];omega
   ·have HC:Hid (∀ wx,Calls Tryz.prog 144 #[.int .u8 (idsC[j]:Nat),.int .i64 k] wx fun e w'=>e=.returned (.bool true)∧Kept No wx w'):=Lib.hid (fun wx=>by have:=HF.out _ wx hx8;rw[hY]at this;exact this)
    have HN:=Lib.hid (idsT_yes k j hlc hY);clear hY hx;generalize idsC[j]=y at *
    go_wp2_with (first
     | (go_at_call 144;refine (HC.out _).mono ?_;rintro e w2 ⟨rfl,hk1⟩;have hown1:=own_keptNo hown hk1;have hc1:=(hk1.cell (p:=⟨b9,off+j,none⟩) hb9 (fun f=>f)).trans hc)
     | (at_builtin;refine wpList_append_row _ rfl _ _ _ rfl w1.heap.size 5 i0 _ 1 Tryz.underlying26 hi hz0 hz1 hz2 rfl _ _ _ rfl (hown1.alloc _) (some ⟨w2.heap.size,0,none⟩) 1 1 (B8 (bl [y])) rfl ?c1 ?c2 (by simp) (B8_one _) ?c3 ?c4 ?c5 ?_;rotate_right;intro v2 w3 hown2 hg2 hv2))
    case c1=>rw[bl_one y hx8];rfl
    case c2=>rw[bl_one y hx8];exact .of_cells (new_cells w2 _ _ _ rfl)
    case c3=>unfold maxLen;omega
    case c4=>omega
    case c5=>have:=hk1.size;simp;omega
    go_roundw
    case rel=>exact ⟨j+1,p++bl [y],by go_num,by omega,Lib.hid (by rw[HN.out,HP.out,bl_append]),by simp[bl];omega,by simpa [B8_append,bl] using hown2,((hk.trans hk1).alloc _).grown hg2 (own_no hown1)⟩
    case measure=>simp[intOf];omega
  ·have hj6:j=27:=by omega
   subst hj6;have hrow:=idRow_of (l:=idsL k) hown (by rw[HP.out];simp[bl,idsT_all]) (by rw[HP.out,idsT_all]) (idsL_lt k);have hB0:=hB0.kept hk (fun f=>f);have hB1:=hB1.kept hk (fun f=>f);have hkw:=hkw.trans hk;have hmem:=fun i h=>idsL_mem (k:=k) (i:=i) h
   have hll:(idsL k).length≤27:=idsT_len k 27;have HI9:Hid (fxId id k=(idsL k).getD (id % (idsL k).length) 0):=Lib.hid rfl;generalize idsL k=l at *;generalize hg0:w.heap.size=g0 at *;have HGE:=Lib.hid (show w.heap.size≤g0 by omega);clear hg0;obtain ⟨a9,cap,rfl,hcl⟩:=hrow;clear hown HP hr HF HI hsz hpl hi hz0 hz1 hz2 hk hlt hj;have q0:=hB0.cell 0;have q1:=hB0.cell 1;have q2:=hB0.cell 2;have q3:=hB0.cell 3;have r0:=hB1.cell 0;have r1:=hB1.cell 1;have r2:=hB1.cell 2;have r3:=hB1.cell 3;simp at q0 q1 q2 q3 r0 r1 r2 r3;have f0:=hB1.frozen 0;have f1:=hB1.frozen 1;have f2:=hB1.frozen 2;have f3:=hB1.frozen 3;have hl0:=hB0.lt;have hl1:=hB1.lt
   by_cases h0:l=[]
   ·subst h0
    have HZ:Hid (fxV (fxId id k) n a b=.agg #[.int .u8 0,.int .u32 0,.string ⟨#[]⟩,.string ⟨#[]⟩]):=Lib.hid (by rw[HI9.out];exact fxV_zero n a b);clear HI9
    go_wp2
    refine bodyPost_ret (v:=.agg #[.int .u8 0,.int .u32 0,.string ⟨#[]⟩,.string ⟨#[]⟩]) (by simp[results,Tryz.results123,go_sem,r0,r1,r2,r3]) rfl ⟨by rw[HZ.out],?_⟩;have hgE:=HGE.out
    repeat (first|exact hkw|refine Kept.alloc ?_ _|refine Kept.setCell ?_ (.inl (by first|omega|(show w.heap.size≤g0+1;omega))) _|refine Kept.drew ?_)
   ·have hlp:0 < l.length:=List.length_pos_iff.2 h0
    have hm:=Nat.mod_lt id hlp;obtain ⟨g,rfl,hg,hc⟩:=hcl (id % l.length) hm;have hq:=hmem _ (List.getElem_mem hm);have hge:l.getD (id % l.length) 0=l[id % l.length]:=by simp[List.getD,List.getElem?_eq_getElem hm]
    rw[hge]at HI9;have h1:=HTT.out;rw[HI9.out]at h1;omega
set_option maxRecDepth 100000 in
set_option maxHeartbeats 16000000 in
theorem rfix_t1 (id n:Nat) (a b:ByteArray) (k:Int) (w:World) (h8:id < 256) (hn:n < 4294967296) (ha:a.size≤9223372036854775807) (hb:b.size≤9223372036854775807) (HTT:Hid (typL (fxId id k)=1)) :
  Calls Tryz.prog 123 #[.agg #[.int .u8 id,.int .u32 n,.string a,.string b],.int .i64 k] w fun e w'=>e=.returned (fxV (fxId id k) n a b)∧Kept No w w':=by
 obtain ⟨i0,hi,hz0,hz1,hz2⟩:=info_parts info_u8p;have cF:=fun i wx (h:i < 256)=>rfor_any i k wx h
 have HF:=Lib.hid cF;have HI:=Lib.hid (fun wx=>ids_any wx);clear cF
 go_enter Tryz.func123,Tryz.ntmps123
 go_wp2_with (go_at_call 169;refine (HI.out _).mono ?_;rintro e w1 ⟨ad,rfl,hr,hk⟩)
 have hB0:Blk w1 w.heap.size 123 #[.int .u8 id,.int .u32 n,.string a,.string b]:=((Blk.new w _ _).alloc _).kept hk (fun f=>f)
 have hB1:Blk w1 (w.heap.size+1) 123 #[.int .u8 0,.int .u32 0,.string ⟨#[]⟩,.string ⟨#[]⟩]:=by
  have h:=(Blk.new _ _ _).kept hk (fun f=>f);simpa using h
 have hkw:Kept No w w1:=(((Kept.refl No w).alloc _).alloc _).trans hk;clear hk
 go_loopw [5,7] (fun s i wr=>∃ (j:Nat) (p:List UInt8),i=.int .i64 j∧j≤27∧Hid (p=bl (idsT k j))∧p.length≤j∧wr.ownsRow w1.heap.size 5 1 s p.length (B8 p)∧Kept No w1 wr) (fun _ i _=>27 - (intOf i).toNat)
 case atStart=>exact ⟨0,[],rfl,by omega,Lib.hid rfl,by simp,World.ownsRow_nil _ _ _ _,Kept.refl _ _⟩
 case round =>
  obtain ⟨j,p,rfl,hj,HP,hpl,hown,hk⟩:=hrel;have hsz:=hk.size
  by_cases hlt:j < 27
  ·have hjI:(j:Int) < 27:=by omega
   have hlc:j < idsC.length:=hlt;obtain ⟨b9,off,rfl,hb9,hc⟩:=(hr.keptNo hk).at_ (k:=j) (by simpa [nats] using hlc);have hx:(nats idsC)[j]'(by simpa [nats] using hlc)=.int .u8 idsC[j]:=by simp[nats]
   rw[hx]at hc;have hx8:idsC[j] < 256:=(idsC_fin _ (List.getElem_mem hlc)).2.1;rcases hY:forB idsC[j] k with _|_
   ·have HC:Hid (∀ wx,Calls Tryz.prog 144 #[.int .u8 (idsC[j]:Nat),.int .i64 k] wx fun e w'=>e=.returned (.bool false)∧Kept No wx w'):=Lib.hid (fun wx=>by have:=HF.out _ wx hx8;rw[hY]at this;exact this)
    have HN:=Lib.hid (idsT_no k j hlc hY);clear hY hx;generalize idsC[j]=y at *
    go_wp2_with (go_at_call 144;refine (HC.out _).mono ?_;rintro e w2 ⟨rfl,hk1⟩)
    go_roundw
    case rel=>exact ⟨j+1,p,by go_num,by omega,Lib.hid (by rw[HN.out,HP.out]),by omega,own_keptNo hown hk1,hk.trans hk1⟩
    case measure=>simp[intOf];omega
   ·have HC:Hid (∀ wx,Calls Tryz.prog 144 #[.int .u8 (idsC[j]:Nat),.int .i64 k] wx fun e w'=>e=.returned (.bool true)∧Kept No wx w'):=Lib.hid (fun wx=>by have:=HF.out _ wx hx8;rw[hY]at this;exact this)
    have HN:=Lib.hid (idsT_yes k j hlc hY);clear hY hx;generalize idsC[j]=y at *
    go_wp2_with (first
     | (go_at_call 144;refine (HC.out _).mono ?_;rintro e w2 ⟨rfl,hk1⟩;have hown1:=own_keptNo hown hk1;have hc1:=(hk1.cell (p:=⟨b9,off+j,none⟩) hb9 (fun f=>f)).trans hc)
     | (at_builtin;refine wpList_append_row _ rfl _ _ _ rfl w1.heap.size 5 i0 _ 1 Tryz.underlying26 hi hz0 hz1 hz2 rfl _ _ _ rfl (hown1.alloc _) (some ⟨w2.heap.size,0,none⟩) 1 1 (B8 (bl [y])) rfl ?c1 ?c2 (by simp) (B8_one _) ?c3 ?c4 ?c5 ?_;rotate_right;intro v2 w3 hown2 hg2 hv2))
    case c1=>rw[bl_one y hx8];rfl
    case c2=>rw[bl_one y hx8];exact .of_cells (new_cells w2 _ _ _ rfl)
    case c3=>unfold maxLen;omega
    case c4=>omega
    case c5=>have:=hk1.size;simp;omega
    go_roundw
    case rel=>exact ⟨j+1,p++bl [y],by go_num,by omega,Lib.hid (by rw[HN.out,HP.out,bl_append]),by simp[bl];omega,by simpa [B8_append,bl] using hown2,((hk.trans hk1).alloc _).grown hg2 (own_no hown1)⟩
    case measure=>simp[intOf];omega
  ·have hj6:j=27:=by omega
   subst hj6;have hrow:=idRow_of (l:=idsL k) hown (by rw[HP.out];simp[bl,idsT_all]) (by rw[HP.out,idsT_all]) (idsL_lt k);have hB0:=hB0.kept hk (fun f=>f);have hB1:=hB1.kept hk (fun f=>f);have hkw:=hkw.trans hk;have hmem:=fun i h=>idsL_mem (k:=k) (i:=i) h
   have hll:(idsL k).length≤27:=idsT_len k 27;have HI9:Hid (fxId id k=(idsL k).getD (id % (idsL k).length) 0):=Lib.hid rfl;generalize idsL k=l at *;generalize hg0:w.heap.size=g0 at *;have HGE:=Lib.hid (show w.heap.size≤g0 by omega);clear hg0;obtain ⟨a9,cap,rfl,hcl⟩:=hrow;clear hown HP hr HF HI hsz hpl hi hz0 hz1 hz2 hk hlt hj;have q0:=hB0.cell 0;have q1:=hB0.cell 1;have q2:=hB0.cell 2;have q3:=hB0.cell 3;have r0:=hB1.cell 0;have r1:=hB1.cell 1;have r2:=hB1.cell 2;have r3:=hB1.cell 3;simp at q0 q1 q2 q3 r0 r1 r2 r3;have f0:=hB1.frozen 0;have f1:=hB1.frozen 1;have f2:=hB1.frozen 2;have f3:=hB1.frozen 3;have hl0:=hB0.lt;have hl1:=hB1.lt
   by_cases h0:l=[]
   ·have h1:=HTT.out
    rw[HI9.out,h0]at h1;have h2:typL 0=1:=h1;exact absurd h2 (by decide)
   ·have hlp:0 < l.length:=List.length_pos_iff.2 h0
    have hm:=Nat.mod_lt id hlp;obtain ⟨g,rfl,hg,hc⟩:=hcl (id % l.length) hm;have hq:=hmem _ (List.getElem_mem hm);have hge:l.getD (id % l.length) 0=l[id % l.length]:=by simp[List.getD,List.getElem?_eq_getElem hm]
    rw[hge]at HI9;have hN:((id:Int) % (l.length:Int)).toNat=id % l.length:=by rw[← Int.natCast_emod];rfl
    have hI0:(0:Int)≤(id:Int) % (l.length:Int):=Int.emod_nonneg _ (by omega);have hI1:(id:Int) % (l.length:Int) < (l.length:Int):=Int.emod_lt_of_pos _ (by omega);have hne:((l.length:Int) == 0)=false:=by simp;omega
    have hnz:(l.length:Int)≠0:=by omega
    clear hmem hcl hge;generalize l[id % l.length]=q at *;have hql:q < 256:=hq.2.1;have HT9:Hid (∀ wx,Calls Tryz.prog 170 #[.int .u8 q] wx fun e w'=>e=.returned (.int .i64 (typL q))∧wx=w'):=Lib.hid (fun wx=>rtype_any q wx)
    have hty:typL q=1:=by
     have h1:=HTT.out;rw[HI9.out]at h1;exact h1
    have HV0:Hid (fxV (fxId id k) n a b=fxV q n a b):=Lib.hid (by rw[HI9.out]);clear HI9 h0 hlp HTT;have HV:Hid (fxV (fxId id k) n a b=.agg #[.int .u8 q,.int .u32 ((n % 2:Nat):Int),.string ⟨#[]⟩,.string ⟨#[]⟩]):=Lib.hid (by rw[HV0.out];unfold fxV fxN fxA fxB;rw[hty];rfl);rw[hty]at HT9;clear hty HV0
    try clear h8q
    try clear h39
    try clear hn0
    go_wp2_with (first
     | (go_at_call 170;refine (HT9.out _).mono ?_;rintro e w2 ⟨rfl,rfl⟩))
    refine bodyPost_ret (v:=.agg #[.int .u8 q,.int .u32 ((n % 2:Nat):Int),.string ⟨#[]⟩,.string ⟨#[]⟩]) (by simp[results,Tryz.results123,go_sem,r0,r1,r2,r3,hl1]) rfl ⟨by rw[HV.out];try rfl,?_⟩;have hgE:=HGE.out
    repeat (first|exact hkw|refine Kept.trans ?_ hk4|refine Kept.trans ?_ hk3|refine Kept.alloc ?_ _|refine Kept.setCell ?_ (.inl (by first|omega|(show w.heap.size≤g0+1;omega)|(show w.heap.size≤wr.heap.size;omega))) _|refine Kept.drew ?_|refine Kept.drewN ?_ _)
set_option maxRecDepth 100000 in
set_option maxHeartbeats 16000000 in
theorem rfix_t2 (id n:Nat) (a b:ByteArray) (k:Int) (w:World) (h8:id < 256) (hn:n < 4294967296) (ha:a.size≤9223372036854775807) (hb:b.size≤9223372036854775807) (HTT:Hid (typL (fxId id k)=2)) :
  Calls Tryz.prog 123 #[.agg #[.int .u8 id,.int .u32 n,.string a,.string b],.int .i64 k] w fun e w'=>e=.returned (fxV (fxId id k) n a b)∧Kept No w w':=by
 obtain ⟨i0,hi,hz0,hz1,hz2⟩:=info_parts info_u8p;have cF:=fun i wx (h:i < 256)=>rfor_any i k wx h
 have HF:=Lib.hid cF;have HI:=Lib.hid (fun wx=>ids_any wx);clear cF
 go_enter Tryz.func123,Tryz.ntmps123
 go_wp2_with (go_at_call 169;refine (HI.out _).mono ?_;rintro e w1 ⟨ad,rfl,hr,hk⟩)
 have hB0:Blk w1 w.heap.size 123 #[.int .u8 id,.int .u32 n,.string a,.string b]:=((Blk.new w _ _).alloc _).kept hk (fun f=>f)
 have hB1:Blk w1 (w.heap.size+1) 123 #[.int .u8 0,.int .u32 0,.string ⟨#[]⟩,.string ⟨#[]⟩]:=by
  have h:=(Blk.new _ _ _).kept hk (fun f=>f);simpa using h
 have hkw:Kept No w w1:=(((Kept.refl No w).alloc _).alloc _).trans hk;clear hk
 go_loopw [5,7] (fun s i wr=>∃ (j:Nat) (p:List UInt8),i=.int .i64 j∧j≤27∧Hid (p=bl (idsT k j))∧p.length≤j∧wr.ownsRow w1.heap.size 5 1 s p.length (B8 p)∧Kept No w1 wr) (fun _ i _=>27 - (intOf i).toNat)
 case atStart=>exact ⟨0,[],rfl,by omega,Lib.hid rfl,by simp,World.ownsRow_nil _ _ _ _,Kept.refl _ _⟩
 case round =>
  obtain ⟨j,p,rfl,hj,HP,hpl,hown,hk⟩:=hrel;have hsz:=hk.size
  by_cases hlt:j < 27
  ·have hjI:(j:Int) < 27:=by omega
   have hlc:j < idsC.length:=hlt;obtain ⟨b9,off,rfl,hb9,hc⟩:=(hr.keptNo hk).at_ (k:=j) (by simpa [nats] using hlc);have hx:(nats idsC)[j]'(by simpa [nats] using hlc)=.int .u8 idsC[j]:=by simp[nats]
   rw[hx]at hc;have hx8:idsC[j] < 256:=(idsC_fin _ (List.getElem_mem hlc)).2.1;rcases hY:forB idsC[j] k with _|_
   ·have HC:Hid (∀ wx,Calls Tryz.prog 144 #[.int .u8 (idsC[j]:Nat),.int .i64 k] wx fun e w'=>e=.returned (.bool false)∧Kept No wx w'):=Lib.hid (fun wx=>by have:=HF.out _ wx hx8;rw[hY]at this;exact this)
    have HN:=Lib.hid (idsT_no k j hlc hY);clear hY hx;generalize idsC[j]=y at *
    go_wp2_with (go_at_call 144;refine (HC.out _).mono ?_;rintro e w2 ⟨rfl,hk1⟩)
    go_roundw
    case rel=>exact ⟨j+1,p,by go_num,by omega,Lib.hid (by rw[HN.out,HP.out]),by omega,own_keptNo hown hk1,hk.trans hk1⟩
    case measure=>simp[intOf];omega
   ·have HC:Hid (∀ wx,Calls Tryz.prog 144 #[.int .u8 (idsC[j]:Nat),.int .i64 k] wx fun e w'=>e=.returned (.bool true)∧Kept No wx w'):=Lib.hid (fun wx=>by have:=HF.out _ wx hx8;rw[hY]at this;exact this)
    have HN:=Lib.hid (idsT_yes k j hlc hY);clear hY hx;generalize idsC[j]=y at *
    go_wp2_with (first
     | (go_at_call 144;refine (HC.out _).mono ?_;rintro e w2 ⟨rfl,hk1⟩;have hown1:=own_keptNo hown hk1;have hc1:=(hk1.cell (p:=⟨b9,off+j,none⟩) hb9 (fun f=>f)).trans hc)
     | (at_builtin;refine wpList_append_row _ rfl _ _ _ rfl w1.heap.size 5 i0 _ 1 Tryz.underlying26 hi hz0 hz1 hz2 rfl _ _ _ rfl (hown1.alloc _) (some ⟨w2.heap.size,0,none⟩) 1 1 (B8 (bl [y])) rfl ?c1 ?c2 (by simp) (B8_one _) ?c3 ?c4 ?c5 ?_;rotate_right;intro v2 w3 hown2 hg2 hv2))
    case c1=>rw[bl_one y hx8];rfl
    case c2=>rw[bl_one y hx8];exact .of_cells (new_cells w2 _ _ _ rfl)
    case c3=>unfold maxLen;omega
    case c4=>omega
    case c5=>have:=hk1.size;simp;omega
    go_roundw
    case rel=>exact ⟨j+1,p++bl [y],by go_num,by omega,Lib.hid (by rw[HN.out,HP.out,bl_append]),by simp[bl];omega,by simpa [B8_append,bl] using hown2,((hk.trans hk1).alloc _).grown hg2 (own_no hown1)⟩
    case measure=>simp[intOf];omega
  ·have hj6:j=27:=by omega
   subst hj6;have hrow:=idRow_of (l:=idsL k) hown (by rw[HP.out];simp[bl,idsT_all]) (by rw[HP.out,idsT_all]) (idsL_lt k);have hB0:=hB0.kept hk (fun f=>f);have hB1:=hB1.kept hk (fun f=>f);have hkw:=hkw.trans hk;have hmem:=fun i h=>idsL_mem (k:=k) (i:=i) h
   have hll:(idsL k).length≤27:=idsT_len k 27;have HI9:Hid (fxId id k=(idsL k).getD (id % (idsL k).length) 0):=Lib.hid rfl;generalize idsL k=l at *;generalize hg0:w.heap.size=g0 at *;have HGE:=Lib.hid (show w.heap.size≤g0 by omega);clear hg0;obtain ⟨a9,cap,rfl,hcl⟩:=hrow;clear hown HP hr HF HI hsz hpl hi hz0 hz1 hz2 hk hlt hj;have q0:=hB0.cell 0;have q1:=hB0.cell 1;have q2:=hB0.cell 2;have q3:=hB0.cell 3;have r0:=hB1.cell 0;have r1:=hB1.cell 1;have r2:=hB1.cell 2;have r3:=hB1.cell 3;simp at q0 q1 q2 q3 r0 r1 r2 r3;have f0:=hB1.frozen 0;have f1:=hB1.frozen 1;have f2:=hB1.frozen 2;have f3:=hB1.frozen 3;have hl0:=hB0.lt;have hl1:=hB1.lt
   by_cases h0:l=[]
   ·have h1:=HTT.out
    rw[HI9.out,h0]at h1;have h2:typL 0=2:=h1;exact absurd h2 (by decide)
   ·have hlp:0 < l.length:=List.length_pos_iff.2 h0
    have hm:=Nat.mod_lt id hlp;obtain ⟨g,rfl,hg,hc⟩:=hcl (id % l.length) hm;have hq:=hmem _ (List.getElem_mem hm);have hge:l.getD (id % l.length) 0=l[id % l.length]:=by simp[List.getD,List.getElem?_eq_getElem hm]
    rw[hge]at HI9;have hN:((id:Int) % (l.length:Int)).toNat=id % l.length:=by rw[← Int.natCast_emod];rfl
    have hI0:(0:Int)≤(id:Int) % (l.length:Int):=Int.emod_nonneg _ (by omega);have hI1:(id:Int) % (l.length:Int) < (l.length:Int):=Int.emod_lt_of_pos _ (by omega);have hne:((l.length:Int) == 0)=false:=by simp;omega
    have hnz:(l.length:Int)≠0:=by omega
    clear hmem hcl hge;generalize l[id % l.length]=q at *;have hql:q < 256:=hq.2.1;have HT9:Hid (∀ wx,Calls Tryz.prog 170 #[.int .u8 q] wx fun e w'=>e=.returned (.int .i64 (typL q))∧wx=w'):=Lib.hid (fun wx=>rtype_any q wx)
    have hty:typL q=2:=by
     have h1:=HTT.out;rw[HI9.out]at h1;exact h1
    have HV0:Hid (fxV (fxId id k) n a b=fxV q n a b):=Lib.hid (by rw[HI9.out]);clear HI9 h0 hlp HTT;have HV:Hid (fxV (fxId id k) n a b=.agg #[.int .u8 q,.int .u32 ((1+n % 65535:Nat):Int),.string ⟨#[]⟩,.string ⟨#[]⟩]):=Lib.hid (by rw[HV0.out];unfold fxV fxN fxA fxB;rw[hty];rfl);rw[hty]at HT9;clear hty HV0
    try clear h8q
    try clear h39
    try clear hn0
    go_wp2_with (first
     | (go_at_call 170;refine (HT9.out _).mono ?_;rintro e w2 ⟨rfl,rfl⟩))
    refine bodyPost_ret (v:=.agg #[.int .u8 q,.int .u32 ((1+n % 65535:Nat):Int),.string ⟨#[]⟩,.string ⟨#[]⟩]) (by simp[results,Tryz.results123,go_sem,r0,r1,r2,r3,hl1]) rfl ⟨by rw[HV.out];try rfl,?_⟩;have hgE:=HGE.out
    repeat (first|exact hkw|refine Kept.trans ?_ hk4|refine Kept.trans ?_ hk3|refine Kept.alloc ?_ _|refine Kept.setCell ?_ (.inl (by first|omega|(show w.heap.size≤g0+1;omega)|(show w.heap.size≤wr.heap.size;omega))) _|refine Kept.drew ?_|refine Kept.drewN ?_ _)
set_option maxRecDepth 100000 in
set_option maxHeartbeats 16000000 in
theorem rfix_t3 (id n:Nat) (a b:ByteArray) (k:Int) (w:World) (h8:id < 256) (hn:n < 4294967296) (ha:a.size≤9223372036854775807) (hb:b.size≤9223372036854775807) (HTT:Hid (typL (fxId id k)=3)) :
  Calls Tryz.prog 123 #[.agg #[.int .u8 id,.int .u32 n,.string a,.string b],.int .i64 k] w fun e w'=>e=.returned (fxV (fxId id k) n a b)∧Kept No w w':=by
 obtain ⟨i0,hi,hz0,hz1,hz2⟩:=info_parts info_u8p;have cF:=fun i wx (h:i < 256)=>rfor_any i k wx h
 have HF:=Lib.hid cF;have HI:=Lib.hid (fun wx=>ids_any wx);clear cF
 go_enter Tryz.func123,Tryz.ntmps123
 go_wp2_with (go_at_call 169;refine (HI.out _).mono ?_;rintro e w1 ⟨ad,rfl,hr,hk⟩)
 have hB0:Blk w1 w.heap.size 123 #[.int .u8 id,.int .u32 n,.string a,.string b]:=((Blk.new w _ _).alloc _).kept hk (fun f=>f)
 have hB1:Blk w1 (w.heap.size+1) 123 #[.int .u8 0,.int .u32 0,.string ⟨#[]⟩,.string ⟨#[]⟩]:=by
  have h:=(Blk.new _ _ _).kept hk (fun f=>f);simpa using h
 have hkw:Kept No w w1:=(((Kept.refl No w).alloc _).alloc _).trans hk;clear hk
 go_loopw [5,7] (fun s i wr=>∃ (j:Nat) (p:List UInt8),i=.int .i64 j∧j≤27∧Hid (p=bl (idsT k j))∧p.length≤j∧wr.ownsRow w1.heap.size 5 1 s p.length (B8 p)∧Kept No w1 wr) (fun _ i _=>27 - (intOf i).toNat)
 case atStart=>exact ⟨0,[],rfl,by omega,Lib.hid rfl,by simp,World.ownsRow_nil _ _ _ _,Kept.refl _ _⟩
 case round =>
  obtain ⟨j,p,rfl,hj,HP,hpl,hown,hk⟩:=hrel;have hsz:=hk.size
  by_cases hlt:j < 27
  ·have hjI:(j:Int) < 27:=by omega
   have hlc:j < idsC.length:=hlt;obtain ⟨b9,off,rfl,hb9,hc⟩:=(hr.keptNo hk).at_ (k:=j) (by simpa [nats] using hlc);have hx:(nats idsC)[j]'(by simpa [nats] using hlc)=.int .u8 idsC[j]:=by simp[nats]
   rw[hx]at hc;have hx8:idsC[j] < 256:=(idsC_fin _ (List.getElem_mem hlc)).2.1;rcases hY:forB idsC[j] k with _|_
   ·have HC:Hid (∀ wx,Calls Tryz.prog 144 #[.int .u8 (idsC[j]:Nat),.int .i64 k] wx fun e w'=>e=.returned (.bool false)∧Kept No wx w'):=Lib.hid (fun wx=>by have:=HF.out _ wx hx8;rw[hY]at this;exact this)
    have HN:=Lib.hid (idsT_no k j hlc hY);clear hY hx;generalize idsC[j]=y at *
    go_wp2_with (go_at_call 144;refine (HC.out _).mono ?_;rintro e w2 ⟨rfl,hk1⟩)
    go_roundw
    case rel=>exact ⟨j+1,p,by go_num,by omega,Lib.hid (by rw[HN.out,HP.out]),by omega,own_keptNo hown hk1,hk.trans hk1⟩
    case measure=>simp[intOf];omega
   ·have HC:Hid (∀ wx,Calls Tryz.prog 144 #[.int .u8 (idsC[j]:Nat),.int .i64 k] wx fun e w'=>e=.returned (.bool true)∧Kept No wx w'):=Lib.hid (fun wx=>by have:=HF.out _ wx hx8;rw[hY]at this;exact this)
    have HN:=Lib.hid (idsT_yes k j hlc hY);clear hY hx;generalize idsC[j]=y at *
    go_wp2_with (first
     | (go_at_call 144;refine (HC.out _).mono ?_;rintro e w2 ⟨rfl,hk1⟩;have hown1:=own_keptNo hown hk1;have hc1:=(hk1.cell (p:=⟨b9,off+j,none⟩) hb9 (fun f=>f)).trans hc)
     | (at_builtin;refine wpList_append_row _ rfl _ _ _ rfl w1.heap.size 5 i0 _ 1 Tryz.underlying26 hi hz0 hz1 hz2 rfl _ _ _ rfl (hown1.alloc _) (some ⟨w2.heap.size,0,none⟩) 1 1 (B8 (bl [y])) rfl ?c1 ?c2 (by simp) (B8_one _) ?c3 ?c4 ?c5 ?_;rotate_right;intro v2 w3 hown2 hg2 hv2))
    case c1=>rw[bl_one y hx8];rfl
    case c2=>rw[bl_one y hx8];exact .of_cells (new_cells w2 _ _ _ rfl)
    case c3=>unfold maxLen;omega
    case c4=>omega
    case c5=>have:=hk1.size;simp;omega
    go_roundw
    case rel=>exact ⟨j+1,p++bl [y],by go_num,by omega,Lib.hid (by rw[HN.out,HP.out,bl_append]),by simp[bl];omega,by simpa [B8_append,bl] using hown2,((hk.trans hk1).alloc _).grown hg2 (own_no hown1)⟩
    case measure=>simp[intOf];omega
  ·have hj6:j=27:=by omega
   subst hj6;have hrow:=idRow_of (l:=idsL k) hown (by rw[HP.out];simp[bl,idsT_all]) (by rw[HP.out,idsT_all]) (idsL_lt k);have hB0:=hB0.kept hk (fun f=>f);have hB1:=hB1.kept hk (fun f=>f);have hkw:=hkw.trans hk;have hmem:=fun i h=>idsL_mem (k:=k) (i:=i) h
   have hll:(idsL k).length≤27:=idsT_len k 27;have HI9:Hid (fxId id k=(idsL k).getD (id % (idsL k).length) 0):=Lib.hid rfl;generalize idsL k=l at *;generalize hg0:w.heap.size=g0 at *;have HGE:=Lib.hid (show w.heap.size≤g0 by omega);clear hg0;obtain ⟨a9,cap,rfl,hcl⟩:=hrow;clear hown HP hr HF HI hsz hpl hi hz0 hz1 hz2 hk hlt hj;have q0:=hB0.cell 0;have q1:=hB0.cell 1;have q2:=hB0.cell 2;have q3:=hB0.cell 3;have r0:=hB1.cell 0;have r1:=hB1.cell 1;have r2:=hB1.cell 2;have r3:=hB1.cell 3;simp at q0 q1 q2 q3 r0 r1 r2 r3;have f0:=hB1.frozen 0;have f1:=hB1.frozen 1;have f2:=hB1.frozen 2;have f3:=hB1.frozen 3;have hl0:=hB0.lt;have hl1:=hB1.lt
   by_cases h0:l=[]
   ·have h1:=HTT.out
    rw[HI9.out,h0]at h1;have h2:typL 0=3:=h1;exact absurd h2 (by decide)
   ·have hlp:0 < l.length:=List.length_pos_iff.2 h0
    have hm:=Nat.mod_lt id hlp;obtain ⟨g,rfl,hg,hc⟩:=hcl (id % l.length) hm;have hq:=hmem _ (List.getElem_mem hm);have hge:l.getD (id % l.length) 0=l[id % l.length]:=by simp[List.getD,List.getElem?_eq_getElem hm]
    rw[hge]at HI9;have hN:((id:Int) % (l.length:Int)).toNat=id % l.length:=by rw[← Int.natCast_emod];rfl
    have hI0:(0:Int)≤(id:Int) % (l.length:Int):=Int.emod_nonneg _ (by omega);have hI1:(id:Int) % (l.length:Int) < (l.length:Int):=Int.emod_lt_of_pos _ (by omega);have hne:((l.length:Int) == 0)=false:=by simp;omega
    have hnz:(l.length:Int)≠0:=by omega
    clear hmem hcl hge;generalize l[id % l.length]=q at *;have hql:q < 256:=hq.2.1;have HT9:Hid (∀ wx,Calls Tryz.prog 170 #[.int .u8 q] wx fun e w'=>e=.returned (.int .i64 (typL q))∧wx=w'):=Lib.hid (fun wx=>rtype_any q wx)
    have hty:typL q=3:=by
     have h1:=HTT.out;rw[HI9.out]at h1;exact h1
    have HV0:Hid (fxV (fxId id k) n a b=fxV q n a b):=Lib.hid (by rw[HI9.out]);clear HI9 h0 hlp HTT;have hq3:=typ3 q hql hty;rcases hq3 with rfl|rfl|rfl|rfl
    ·have HV:Hid (fxV (fxId id k) n a b=.agg #[.int .u8 2,.int .u32 ((n:Nat):Int),.string ⟨#[]⟩,.string ⟨#[]⟩]):=Lib.hid (by rw[HV0.out];unfold fxV fxN fxA fxB;rw[hty];simp)
     rw[hty]at HT9;clear hty HV0
     try clear h8q
     try clear h39
     try clear hn0
     go_wp2_with (first
      | (go_at_call 170;refine (HT9.out _).mono ?_;rintro e w2 ⟨rfl,rfl⟩))
     refine bodyPost_ret (v:=.agg #[.int .u8 2,.int .u32 ((n:Nat):Int),.string ⟨#[]⟩,.string ⟨#[]⟩]) (by simp[results,Tryz.results123,go_sem,r0,r1,r2,r3,hl1]) rfl ⟨by rw[HV.out];try rfl,?_⟩;have hgE:=HGE.out
     repeat (first|exact hkw|refine Kept.trans ?_ hk4|refine Kept.trans ?_ hk3|refine Kept.alloc ?_ _|refine Kept.setCell ?_ (.inl (by first|omega|(show w.heap.size≤g0+1;omega)|(show w.heap.size≤wr.heap.size;omega))) _|refine Kept.drew ?_|refine Kept.drewN ?_ _)
    ·have HV:Hid (fxV (fxId id k) n a b=.agg #[.int .u8 17,.int .u32 ((n:Nat):Int),.string ⟨#[]⟩,.string ⟨#[]⟩]):=Lib.hid (by rw[HV0.out];unfold fxV fxN fxA fxB;rw[hty];simp)
     rw[hty]at HT9;clear hty HV0
     try clear h8q
     try clear h39
     try clear hn0
     go_wp2_with (first
      | (go_at_call 170;refine (HT9.out _).mono ?_;rintro e w2 ⟨rfl,rfl⟩))
     refine bodyPost_ret (v:=.agg #[.int .u8 17,.int .u32 ((n:Nat):Int),.string ⟨#[]⟩,.string ⟨#[]⟩]) (by simp[results,Tryz.results123,go_sem,r0,r1,r2,r3,hl1]) rfl ⟨by rw[HV.out];try rfl,?_⟩;have hgE:=HGE.out
     repeat (first|exact hkw|refine Kept.trans ?_ hk4|refine Kept.trans ?_ hk3|refine Kept.alloc ?_ _|refine Kept.setCell ?_ (.inl (by first|omega|(show w.heap.size≤g0+1;omega)|(show w.heap.size≤wr.heap.size;omega))) _|refine Kept.drew ?_|refine Kept.drewN ?_ _)
    ·have HV:Hid (fxV (fxId id k) n a b=.agg #[.int .u8 24,.int .u32 ((n:Nat):Int),.string ⟨#[]⟩,.string ⟨#[]⟩]):=Lib.hid (by rw[HV0.out];unfold fxV fxN fxA fxB;rw[hty];simp)
     rw[hty]at HT9;clear hty HV0
     try clear h8q
     try clear h39
     try clear hn0
     go_wp2_with (first
      | (go_at_call 170;refine (HT9.out _).mono ?_;rintro e w2 ⟨rfl,rfl⟩))
     refine bodyPost_ret (v:=.agg #[.int .u8 24,.int .u32 ((n:Nat):Int),.string ⟨#[]⟩,.string ⟨#[]⟩]) (by simp[results,Tryz.results123,go_sem,r0,r1,r2,r3,hl1]) rfl ⟨by rw[HV.out];try rfl,?_⟩;have hgE:=HGE.out
     repeat (first|exact hkw|refine Kept.trans ?_ hk4|refine Kept.trans ?_ hk3|refine Kept.alloc ?_ _|refine Kept.setCell ?_ (.inl (by first|omega|(show w.heap.size≤g0+1;omega)|(show w.heap.size≤wr.heap.size;omega))) _|refine Kept.drew ?_|refine Kept.drewN ?_ _)
    ·by_cases hn0:n=0
     ·subst hn0
      have HV:Hid (fxV (fxId id k) 0 a b=.agg #[.int .u8 39,.int .u32 ((7:Nat):Int),.string ⟨#[]⟩,.string ⟨#[]⟩]):=Lib.hid (by rw[HV0.out];unfold fxV fxN fxA fxB;rw[hty];simp);rw[hty]at HT9;clear hty HV0
      try clear h8q
      try clear h39
      skip
      go_wp2_with (first
       | (go_at_call 170;refine (HT9.out _).mono ?_;rintro e w2 ⟨rfl,rfl⟩))
      refine bodyPost_ret (v:=.agg #[.int .u8 39,.int .u32 ((7:Nat):Int),.string ⟨#[]⟩,.string ⟨#[]⟩]) (by simp[results,Tryz.results123,go_sem,r0,r1,r2,r3,hl1]) rfl ⟨by rw[HV.out];try rfl,?_⟩;have hgE:=HGE.out
      repeat (first|exact hkw|refine Kept.trans ?_ hk4|refine Kept.trans ?_ hk3|refine Kept.alloc ?_ _|refine Kept.setCell ?_ (.inl (by first|omega|(show w.heap.size≤g0+1;omega)|(show w.heap.size≤wr.heap.size;omega))) _|refine Kept.drew ?_|refine Kept.drewN ?_ _)
     ·have hb0:((n:Int) == 0)=false:=by simp;omega
      have HV:Hid (fxV (fxId id k) n a b=.agg #[.int .u8 39,.int .u32 ((n:Nat):Int),.string ⟨#[]⟩,.string ⟨#[]⟩]):=Lib.hid (by rw[HV0.out];unfold fxV fxN fxA fxB;rw[hty];simp[hn0]);rw[hty]at HT9;clear hty HV0
      try clear h8q
      try clear h39
      try clear hn0
      go_wp2_with (first
       | (go_at_call 170;refine (HT9.out _).mono ?_;rintro e w2 ⟨rfl,rfl⟩))
      refine bodyPost_ret (v:=.agg #[.int .u8 39,.int .u32 ((n:Nat):Int),.string ⟨#[]⟩,.string ⟨#[]⟩]) (by simp[results,Tryz.results123,go_sem,r0,r1,r2,r3,hl1]) rfl ⟨by rw[HV.out];try rfl,?_⟩;have hgE:=HGE.out
      repeat (first|exact hkw|refine Kept.trans ?_ hk4|refine Kept.trans ?_ hk3|refine Kept.alloc ?_ _|refine Kept.setCell ?_ (.inl (by first|omega|(show w.heap.size≤g0+1;omega)|(show w.heap.size≤wr.heap.size;omega))) _|refine Kept.drew ?_|refine Kept.drewN ?_ _)
end Go.Proofs.YtohmcfmcbibbcaaGreatDoor
