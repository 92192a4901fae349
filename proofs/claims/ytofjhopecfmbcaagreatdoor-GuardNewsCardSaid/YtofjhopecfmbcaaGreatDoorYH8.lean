import Derived.Test.YtofjhopecfmbcaaGreatDoorYH4
import Derived.Test.YtofjhopecfmbcaaGreatDoorYF7
import Derived.Test.YtofjhopecfmbcaaGreatDoorYF8
import Derived.Test.YtofjhopecfmbcaaGreatDoorYH6
import Derived.Test.YtofjhopecfmbcaaGreatDoorYH7
namespace Go.Proofs.YtofjhopecfmbcaaGreatDoor
open Go.RowKit
set_option linter.unusedVariables false
set_option linter.unusedSimpArgs false
set_option maxRecDepth 100000
def rdB (r:Nat) (a:Option Addr) (n cp:Nat) (e:Int):Bl:=⟨r,130,[.slice a n cp,.int .i64 e]⟩
structure RdK (c:World) (a:Option Addr) (cp:Nat) (l:List UInt8) (e:Int):Prop where
 row:Row c a (B8 l)
 typ:Typ c a l
 le:l.length≤cp
 nil:a=none→cp=0
 sm:l.length≤140737000000000
 bad:e≠0→l=[]
theorem Typ.le9 {c w:World} {a:Option Addr} {l:List UInt8} (h:Typ c a l) (hr:Row c a (B8 l)) (k:Le c w):Typ w a l:=by
 intro b off ha hl;obtain ⟨cs,fz,hx⟩:=h b off ha hl;refine ⟨cs,fz,?_⟩;rcases hr with h9|⟨b',off',h1,h2,h3⟩
 ·exact absurd h9 (by cases l<;>simp_all [B8])
 ·rw[ha]at h1
  injection h1 with h1;injection h1 with e1 e2;subst e1;cases l with
  | nil=>exact absurd rfl hl
  | cons u l=>rw[k.blk (h3 0 _ rfl),hx]
theorem RdK.le9 {c w:World} {a:Option Addr} {cp:Nat} {l:List UInt8} {e:Int} (h:RdK c a cp l e) (k:Le c w):RdK w a cp l e:=⟨h.row.le k,h.typ.le9 h.row k,h.le,h.nil,h.sm,h.bad⟩
theorem RdK.rdr {κ:Cx} {c w:World} {r:Nat} {a:Option Addr} {cp:Nat} {l:List UInt8} {e:Int} (h:RdK c a cp l e) (S:St κ c [rdB r a l.length cp e] [] w):Rdr w r l e :=
 ⟨a,cp,S.m _ (List.mem_singleton_self _),h.le,h.nil,h.row.le S.le,h.sm,h.bad,h.typ.le9 h.row S.le⟩
theorem RdK.after {κ:Cx} {c w w':World} {r:Nat} {a:Option Addr} {cp:Nat} {l l':List UInt8} {e e':Int} (h:RdK c a cp l e) (S:St κ c [rdB r a l.length cp e] [] w) (hr:Rdr w' r l' e') (hk:Kept (One r) w w') (hs:Stay w w' r):∃ a' cp',RdK c a' cp' l' e'∧St ⟨κ.w0,w,Own [rdB r a l.length cp e] [],c⟩ c [rdB r a' l'.length cp' e'] [] w':=by
 obtain ⟨a',cp',hb,h1,h2,h3,h4,h5,h6⟩:=hr
 have key:l'≠[]→Row c a' (B8 l')∧Typ c a' l':=fun hl=>by
  rcases h3 with h3|⟨b,o,rfl,hlt,hc⟩
  ·exact absurd h3 (by cases l'<;>simp_all [B8])
  ·have hB:=S.m _ (List.mem_singleton_self _)
   have hc1:w'.cell? ⟨r,0,none⟩=some (.slice (some ⟨b,o,none⟩) l'.length cp'):=by rw[hb.cell];rfl
   have hc2:w.cell? ⟨r,0,none⟩=some (.slice a l.length cp):=(hB.cell 0).trans rfl;obtain ⟨o',n',c',e1,e2⟩:=hs b o _ _ hc1 (fun h9=>hl (List.eq_nil_of_length_eq_zero h9));rw[hc2]at e1;injection e1 with e1;injection e1 with e1 e3 e4;subst e1 e3;rcases h.row with h9|⟨b2,o2,g1,g2,g3⟩
   ·exact absurd h9 (by cases l<;>simp_all [B8])
   ·injection g1 with g1
    injection g1 with g1 g4;subst g1;have hl0:l≠[]:=fun h9=>e2 (by rw[h9];rfl)
    obtain ⟨u,hu⟩:∃ u,(B8 l)[0]?=some u:=by
     cases l with
     | nil=>exact absurd rfl hl0
     | cons x l=>exact ⟨_,rfl⟩
    have hcell:=g3 0 u hu;have hw:w.heap[b]?=c.heap[b]?:=S.le.blk hcell
    have hne:¬ One r b:=fun h9=>by
     have ho:=(S.own r (.inl ⟨_,List.mem_singleton_self _,rfl⟩)).2.2;have h9:b=r:=h9;subst h9;rcases ho with ho|ho
     ·have:=(hole_cell hcell).1;omega
     ·exact (hole_cell hcell).2 ho
    have hlw:b < w.heap.size:=Nat.lt_of_lt_of_le (hole_cell hcell).1 S.le.size;have hw':w'.heap[b]?=c.heap[b]?:=(hk.block b hlw hne).trans hw;refine ⟨.inr ⟨b,o,rfl,(hole_cell hcell).1,fun j u hj=>?_⟩,fun b9 off h8 _=>?_⟩
    ·rw[← hc j u hj]
     exact (World.cell?_of_block hw').symm
    ·injection h8 with h8
     injection h8 with h8;subst h8;exact h.typ b o' rfl hl0
 refine ⟨a',cp',⟨?_,?_,h1,h2,h4,h5⟩,S.sub.setl (A:=[]) (M1:=[]) hk hb⟩
 all_goals by_cases hl:l'=[]
 ·subst hl;exact .nil _ _
 ·exact (key hl).1
 ·subst hl;exact Typ.nil _ _
 ·exact (key hl).2
theorem Tr.rd {f : Nat} {fn : Func} {args : List Value} {c : World} {r : Nat} {a : Option Addr} {cp : Nat} {l l' : List UInt8} {e e' : Int} {v : Value} (hf : Tryz.prog.funcs[f]? = some fn) (h : RdK c a cp l e) (old : ∀ w, Rdr w r l e → Calls Tryz.prog f args.toArray w fun ed w' => ed = .returned v ∧ After w w' r l' e') (hb : fn.body.isNone = false := by rfl) (hg : (fn.name == "runtime.NumGoroutine") = false := by kernel_rfl) :
  Tr Tryz.prog f args c [rdB r a l.length cp e] [] (fun _=>v) (fun _=>c) (fun x:Option Addr × Nat=>[rdB r x.1 l'.length x.2 e']) (fun _=>[]) (fun x=>RdK c x.1 x.2 l' e') :=
 ⟨fun args w=>gx_fn hf hg hb args w,fun κ w S=>(old w (h.rdr S)).mono fun ed w' ⟨h1,h2⟩=>by
  obtain ⟨a',cp',h3,h4⟩:=h.after S h2.rdr h2.kept h2.stay;exact ⟨(a',cp'),h1,h3,h4⟩⟩
theorem takeSec_le (l:List UInt8) (e:Int):(takeSec l e).length≤l.length:=by
 have h1:=(rv_suf 4 0 0 l e).length_le;unfold takeSec taken
 split
 ·rw[List.length_take];omega
 ·simp
section
variable {c:World} {r:Nat} {a:Option Addr} {cp:Nat} {l:List UInt8} {e:Int}
theorem tr_byte (h:RdK c a cp l e):Tr Tryz.prog 50 [.pointer (some ⟨r,0,none⟩)] c [rdB r a l.length cp e] [] (fun _=>.int .u8 (num (taken 1 l e))) (fun _=>c) (fun x:Option Addr × Nat=>[rdB r x.1 (leftL 1 l e).length x.2 (leftE 1 l e)]) (fun _=>[]) (fun x=>RdK c x.1 x.2 (leftL 1 l e) (leftE 1 l e)):=Tr.rd Tryz.func50 h fun w hr=>rbyte_any w r l e hr
theorem tr_two (h:RdK c a cp l e):Tr Tryz.prog 102 [.pointer (some ⟨r,0,none⟩)] c [rdB r a l.length cp e] [] (fun _=>.int .u16 (num (taken 2 l e))) (fun _=>c) (fun x:Option Addr × Nat=>[rdB r x.1 (leftL 2 l e).length x.2 (leftE 2 l e)]) (fun _=>[]) (fun x=>RdK c x.1 x.2 (leftL 2 l e) (leftE 2 l e)):=Tr.rd Tryz.func102 h fun w hr=>rtwo_any w r l e hr
theorem tr_bin (h:RdK c a cp l e):Tr Tryz.prog 135 [.pointer (some ⟨r,0,none⟩)] c [rdB r a l.length cp e] [] (fun _=>.string ⟨(binTaken l e).toArray⟩) (fun _=>c) (fun x:Option Addr × Nat=>[rdB r x.1 (binL l e).length x.2 (binE l e)]) (fun _=>[]) (fun x=>RdK c x.1 x.2 (binL l e) (binE l e)):=Tr.rd Tryz.func135 h fun w hr=>rbin_any w r l e hr
theorem tr_rest (h:RdK c a cp l e):Tr Tryz.prog 106 [.pointer (some ⟨r,0,none⟩)] c [rdB r a l.length cp e] [] (fun _=>.string ⟨l.toArray⟩) (fun _=>c) (fun x:Option Addr × Nat=>[rdB r x.1 0 x.2 e]) (fun _=>[]) (fun x=>RdK c x.1 x.2 [] e):=Tr.rd (l':=[]) Tryz.func106 h fun w hr=>rrest_any w r l e hr
theorem tr_rvar (h:RdK c a cp l e):Tr Tryz.prog 51 [.pointer (some ⟨r,0,none⟩)] c [rdB r a l.length cp e] [] (fun _=>.int .u32 (rv 4 0 0 l e).1) (fun _=>c) (fun x:Option Addr × Nat=>[rdB r x.1 (rv 4 0 0 l e).2.1.length x.2 (rv 4 0 0 l e).2.2]) (fun _=>[]) (fun x=>RdK c x.1 x.2 (rv 4 0 0 l e).2.1 (rv 4 0 0 l e).2.2):=Tr.rd Tryz.func51 h fun w hr=>rvar_any w r l e hr
structure TkX where
 a:Option Addr
 cp:Nat
 b:Option Addr
 bp:Nat
 c:World
theorem tr_take (hT:Tabs c) (h:RdK c a cp l e) (hl:l.length≤100000):Tr Tryz.prog 138 [.pointer (some ⟨r,0,none⟩)] c [rdB r a l.length cp e] [] (fun x:TkX=>.tuple #[.slice x.b (takeR l e).1.length x.bp,.bool (takeR l e).2]) (fun x=>x.c) (fun x=>[rdB r x.a (takeLeft l e).length x.cp (takeErr l e)]) (fun _=>[])
  (fun x=>Le c x.c∧RdK x.c x.a x.cp (takeLeft l e) (takeErr l e)∧Row x.c x.b (PC (takeR l e).1)∧(x.b=none→x.bp=0)) :=
 ⟨fun args w=>gx_fn Tryz.func138 (by kernel_rfl) rfl args w,fun κ w S=>(ptake_own w r l e (h.rdr S) hl (hT.le S.le) (fun _ _=>sort_any _ (by
   have h1:(eachL (takeSec l e)).1.length≤(takeSec l e).length:=each_len _ _;have h2:=takeSec_le l e;omega))).mono fun ed w' ⟨b,bp,h1,h2,h3⟩=>by
  obtain ⟨a',cp',h4,h5⟩:=h.after S h3.rdr h3.kept h3.stay
  obtain ⟨l1,l2⟩:=h5.learn (G:=fun g=>(Value.slice b (takeR l e).1.length bp).ownBlock=some g) (fun g hg ho=>by
   have h6:=(h2.lt g hg).1;have h7:=S.lt (g:=g) (by rcases ho with ⟨y,hy,rfl⟩|⟨y,hy,_⟩;(rw[List.mem_singleton.1 hy];exact .inl ⟨_,List.mem_singleton_self _,rfl⟩);cases hy);omega) (fun g hg=>.inr (h2.lt g hg).1) (fun g hg=>.inl (Nat.le_trans S.le.size (h2.lt g hg).1))
  have h8:=own_learn (c:=c) h2;exact ⟨⟨a',cp',b,bp,_⟩,h1,⟨l1,h4.le9 l1,h8.row,h8.nil⟩,l2⟩⟩
end
set_option maxHeartbeats 8000000
abbrev tkB (t:Nat) (v:Int) (r:Nat) (b:Bool):Bl:=⟨t,135,[.int .i64 v,.pointer (some ⟨r,0,none⟩),.bool b]⟩
section
variable {c:World} {t r:Nat} {v:Int} {a:Option Addr} {cp:Nat} {s:Ts}
theorem tr_need (b x:Bool):Tr Tryz.prog 134 [pt t,.bool x] c [tkB t v r b] [] (fun _:Unit=>.tuple #[]) (fun _=>c) (fun _=>[tkB t v r (b||!x)]) (fun _=>[]) (fun _=>True):=by
 cases b<;>cases x
 all_goals refine Tr.in Tryz.func134 ?_
 all_goals refine go ?_
 all_goals exact vrt0 () trivial
theorem tr_needx (b x:Bool) {y:Bool} (e:x=y):Tr Tryz.prog 134 [pt t,.bool x] c [tkB t v r b] [] (fun _:Unit=>.tuple #[]) (fun _=>c) (fun _=>[tkB t v r (b||!y)]) (fun _=>[]) (fun _=>True):=e▸tr_need b x
theorem bin_sz (s:Ts):s.bin.size≤65535:=by
 have h1:s.bin.size=(binTaken s.l s.e).length:=by simp[Ts.bin,ByteArray.size]
 have h2:=taken_le (num (taken 2 s.l s.e)) (leftL 2 s.l s.e) (leftE 2 s.l s.e);have h3:=num_le 2 s.l s.e 2 (by omega);rw[h1];unfold binTaken;omega
theorem tr_text (hT:Tabs c) (h:RdK c a cp s.l s.e):Tr Tryz.prog 136 [pt t] c [tkB t v r s.b,rdB r a s.l.length cp s.e] [] (fun _=>.string s.bin) (fun _=>c) (fun x:Option Addr × Nat=>[tkB t v r s.rdT.b,rdB r x.1 s.rdT.l.length x.2 s.rdT.e]) (fun _=>[]) (fun x=>RdK c x.1 x.2 s.rdT.l s.rdT.e):=by
 have c1:=ck_right hT (s:=s.bin) (by have:=bin_sz s;omega);refine Tr.in Tryz.func136 ?_
 repeat' first|refine go ?_|refine vt1b (tr_bin h) fun x hx=>?_|refine vt1a (tr_need _ _) fun _ _=>?_|fail
 exact vrt _ hx
theorem tr_sec (hT:Tabs c) (h:RdK c a cp s.l s.e) (hl:s.l.length≤100000):Tr Tryz.prog 104 [pt t] c [tkB t v r s.b,rdB r a s.l.length cp s.e] [] (fun x:TkX=>.slice x.b (s.sec v).length x.bp) (fun x=>x.c) (fun x=>[tkB t v r (s.rdS v).b,rdB r x.a (s.rdS v).l.length x.cp (s.rdS v).e]) (fun _=>[])
  (fun x=>Le c x.c∧RdK x.c x.a x.cp (s.rdS v).l (s.rdS v).e∧Row x.c x.b (PC (s.sec v))∧(x.b=none→x.bp=0)):=by
 refine Tr.in Tryz.func104 ?_
 by_cases hv:v=4
 ·subst hv
  refine go ?_;exact vrt (TkX.mk a cp none 0 c) ⟨Le.refl c,h,.nil _ _,fun _=>rfl⟩
 ·have e1:s.sec v=(takeR s.l s.e).1:=if_neg hv
  have e2:s.rdS v=Ts.need ⟨takeLeft s.l s.e,takeErr s.l s.e,s.b⟩ (takeR s.l s.e).2:=if_neg hv;rw[e1,e2]
  repeat' first|refine go ?_|refine vt1b (tr_take hT h hl) fun x hx=>?_|refine vt1a (tr_need _ _) fun _ _=>?_|fail
  exact vrt x hx
theorem kr_left {M:List Bl} {R:List Rwv} {l:List UInt8} {e:Int} (h:RdK c a cp l e) (hm:rdB r a l.length cp e∈M):∀ κ w,St κ c M R w→Calls Tryz.prog 53 #[pt r] w fun e9 w'=>e9=.returned (.int .i64 l.length)∧Kept No w w':=fun κ w S =>
 (left_any w r l e ⟨a,cp,S.m _ hm,h.le,h.nil,h.row.le S.le,h.sm,h.bad,h.typ.le9 h.row S.le⟩).mono fun e9 w' ⟨h1,h2⟩=>⟨h1,h2▸Kept.refl No w⟩
theorem kr_err {M:List Bl} {R:List Rwv} {l:List UInt8} {e:Int} (h:RdK c a cp l e) (hm:rdB r a l.length cp e∈M):∀ κ w,St κ c M R w→Calls Tryz.prog 52 #[pt r] w fun e9 w'=>e9=.returned (.int .i64 e)∧Kept No w w':=fun κ w S =>
 (err_any w r l e ⟨a,cp,S.m _ hm,h.le,h.nil,h.row.le S.le,h.sm,h.bad,h.typ.le9 h.row S.le⟩).mono fun e9 w' ⟨h1,h2⟩=>⟨h1,h2▸Kept.refl No w⟩
theorem tr_ok (h:RdK c a cp s.l s.e):Tr Tryz.prog 75 [pt t] c [tkB t v r s.b,rdB r a s.l.length cp s.e] [] (fun _:Unit=>.bool s.ok) (fun _=>c) (fun _=>[tkB t v r s.b,rdB r a s.l.length cp s.e]) (fun _=>[]) (fun _=>True):=by
 have e1:s.ok=(!s.b&&decide (s.e=0)):=rfl;rw[e1];cases s.b
 all_goals refine Tr.in Tryz.func75 ?_
 all_goals refine go ?_
 ·refine vkc (kr_err h (.tail _ (.head _))) ?_
  refine go ?_;exact vrt () trivial
 ·exact vrt () trivial
abbrev pkB (q:Nat) (p:Pk) (s:Sl):Bl:=⟨q,61,p.li s⟩
structure TpX where
 a:Option Addr
 cp:Nat
 sl:Sl
 c:World
abbrev Tp (f:Nat) (args:List Value) (c:World) (t r q:Nat) (v:Int) (a:Option Addr) (cp:Nat) (s:Ts) (p:Pk) (sl:Sl) (res:Pk × Ts):Prop:=Tr Tryz.prog f (pt t :: pt q :: args) c [tkB t v r s.b,rdB r a s.l.length cp s.e,pkB q p sl] [] (fun _:TpX=>.tuple #[]) (fun x=>x.c) (fun x=>[tkB t v r res.2.b,rdB r x.a res.2.l.length x.cp res.2.e,pkB q res.1 x.sl]) (fun _=>[])
 (fun x=>Le c x.c∧RdK x.c x.a x.cp res.2.l res.2.e∧res.1.At x.sl x.c∧(x.sl.ca=none→x.sl.cc=0))
theorem bI (n:Nat):decide (((n:Nat):Int)=0)=decide (n=0):=by simp
theorem bI1 (n:Nat):decide (((n:Nat):Int)=1)=decide (n=1):=by rw[decide_eq_decide];omega
theorem rd_len (n:Int) (s:Ts):(s.rd n).l.length≤s.l.length:=leftL_le n s.l s.e
theorem tp_short (hT:Tabs c) {q:Nat} {p:Pk} {sl:Sl} (h:RdK c a cp s.l s.e) (hl:s.l.length≤100000) (hp:p.At sl c) (hs:sl.ca=none→sl.cc=0):Tp 103 [] c t r q v a cp s p sl (shortK v p s):=by
 have h1:=rd_len 1 s;refine Tr.in Tryz.func103 ?_
 by_cases h4:v=4
 ·have e:shortK v p s=(p,s):=if_pos (.inl h4)
  rw[e];refine go ?_;exact vrt0 (TpX.mk a cp sl c) ⟨Le.refl c,h,hp,hs⟩
 ·refine go ?_
  refine vkc (kr_left h (.tail _ (.head _))) ?_
  by_cases h0:s.l.length=0
  ·have e:shortK v p s=(p,s):=if_pos (.inr h0)
   rw[e];refine go ?_;exact vrt0 (TpX.mk a cp sl c) ⟨Le.refl c,h,hp,hs⟩
  ·refine go ?_
   refine vt1b (tr_byte h) fun x hx=>?_
   refine go ?_;refine vkc (kr_left hx (.tail _ (.head _))) ?_
   by_cases h2:(leftL 1 s.l s.e).length=0
   ·have e:shortK v p s=({ p with code:=s.num 1 },s.rd 1):=(if_neg (by omega)).trans (if_pos h2)
    rw[e];refine go ?_;exact vrt0 (TpX.mk x.1 x.2 sl c) ⟨Le.refl c,hx,⟨hp.hw,hp.hf,hp.hc,hp.hp⟩,hs⟩
   ·have e:shortK v p s=({ p with code:=s.num 1,props:=(s.rd 1).sec v },(s.rd 1).rdS v):=(if_neg (by omega)).trans (if_neg h2)
    rw[e];refine go ?_;refine vt20 (tr_sec (s:=s.rd 1) hT hx (by omega)) fun y hy=>?_
    refine go ?_;have hq:=hp.le hy.1;exact vrt0 (TpX.mk y.a y.cp { sl with pa:=y.b,pc:=y.bp } y.c) ⟨hy.1,hy.2.1,⟨hq.hw,hq.hf,hq.hc,hy.2.2.1⟩,hs⟩
theorem tp_will (hT:Tabs c) {q f:Nat} {p:Pk} {sl:Sl} (hf:f < 256) (h:RdK c a cp s.l s.e) (hl:s.l.length≤100000) (hp:p.At sl c) (hs:sl.ca=none→sl.cc=0):Tp 137 [.int .u8 f] c t r q v a cp s p sl (willK v f p s):=by
 have h8:f / 8 < 256:=by omega
 refine Tr.in Tryz.func137 ?_;cases hb:(!decide (f &&& 4=0)) with
 | false =>
  have e:willK v f p s=({ p with hasWill:=!decide (f &&& 4=0) },s.need (decide (f &&& 56=0))):=if_neg (by rw[hb];simp);rw[e];refine go ?_;refine vcT ?_ (hp:=by simpa using hb)
  refine go ?_;refine vt1a (tr_need _ _) fun _ _=>?_
  refine go ?_;exact vrt0 (TpX.mk a cp sl c) ⟨Le.refl c,h,⟨hp.hw,hp.hf,hp.hc,hp.hp⟩,hs⟩ (hM:=by simp[Ts.need,Pk.li])
 | true =>
  have e:willK v f p s=({ p with hasWill:=!decide (f &&& 4=0),willQoS:=f / 8 &&& 3,willRetain:=!decide (f &&& 32=0),willProps:=s.sec v,willTopic:=(s.rdS v).bin,willLoad:=(s.rdS v).rdT.bin },(s.rdS v).rdT.rdB):=if_pos hb;rw[e];refine go ?_;refine vcF ?_ (hp:=by simpa using hb)
  refine go ?_;refine vt20 (tr_sec hT h hl) fun x hx=>?_
  have hT2:=hT.le hx.1;refine go ?_;refine vt20 (tr_text (s:=s.rdS v) hT2 hx.2.1) fun y hy=>?_
  refine go ?_;refine vt1b (tr_bin (l:=(s.rdS v).rdT.l) (e:=(s.rdS v).rdT.e) hy) fun z hz=>?_
  refine go ?_;have hq:=hp.le hx.1;exact vrt0 (TpX.mk z.1 z.2 { sl with wa:=x.b,wc:=x.bp } x.c) ⟨hx.1,hz,⟨hx.2.2.1,hq.hf,hq.hc,hq.hp⟩,hs⟩ (hM:=by simp[Pk.li];repeat' first|rfl|omega|constructor)
theorem rdT_len (s:Ts):s.rdT.l.length≤s.l.length:=Nat.le_trans (leftL_le _ _ _) (leftL_le _ _ _)
theorem rdB_len (s:Ts):s.rdB.l.length≤s.l.length:=Nat.le_trans (leftL_le _ _ _) (leftL_le _ _ _)
theorem rdS_len (v:Int) (s:Ts):(s.rdS v).l.length≤s.l.length:=by
 unfold Ts.rdS
 split
 ·exact Nat.le_refl _
 ·exact Nat.le_trans (leftL_le _ _ _) (rv_suf 4 0 0 s.l s.e).length_le
theorem num1_lt (s:Ts):s.num 1 < 256:=num_le 1 s.l s.e 1 (by omega)
theorem tp_connack (hT:Tabs c) {q:Nat} {sl:Sl} (h:RdK c a cp s.l s.e) (hl:s.l.length≤100000) (hp:(zk 2).At sl c) (hs:sl.ca=none→sl.cc=0):Tp 100 [] c t r q v a cp s (zk 2) sl (connackK v s):=by
 have h1:=rd_len 1 s;have h2:=leftL_le 1 (leftL 1 s.l s.e) (leftE 1 s.l s.e);refine Tr.in Tryz.func100 ?_;refine go ?_;refine vt1b (tr_byte h) fun x hx=>?_
 refine go ?_;refine vt1a (tr_needx (y:=decide (s.num 1≤1)) _ (decide (((num (taken 1 s.l s.e):Nat):Int)≤1)) (by rw[decide_eq_decide];simp only[Ts.num];omega)) fun _ _=>?_
 refine go ?_;refine vt1b (tr_byte hx) fun y hy=>?_
 refine go ?_;refine vt20 (tr_sec (s:=((s.rd 1).need (decide (s.num 1≤1))).rd 1) hT hy (Nat.le_trans (Nat.le_trans h2 h1) hl)) fun z hz=>?_
 refine go ?_;have hq:=hp.le hz.1;exact vrt0 (TpX.mk z.a z.cp { sl with pa:=z.b,pc:=z.bp } z.c) ⟨hz.1,hz.2.1,⟨hq.hw,hq.hf,hq.hc,hz.2.2.1⟩,hs⟩ (hM:=by simp[Pk.li,connackK,Ts.num,bI1];repeat' first|rfl|omega|constructor)
theorem tp_publish (hT:Tabs c) {q f:Nat} {sl:Sl} (hf:f < 256) (h:RdK c a cp s.l s.e) (hl:s.l.length≤100000) (hp:(zk 3).At sl c) (hs:sl.ca=none→sl.cc=0):Tp 101 [.int .u8 f] c t r q v a cp s (zk 3) sl (publK v f s):=by
 have h1:=rdT_len s;have h2:=rd_len 2 s.rdT;have h8:f / 2 < 256:=by omega
 refine Tr.in Tryz.func101 ?_;refine go ?_;refine vt20 (tr_text hT h) fun x hx=>?_
 refine go ?_
 by_cases hq:f / 2 &&& 3=0
 ·have e:publK v f s=({ zk 3 with dup:=!decide (f &&& 8=0),qos:=f / 2 &&& 3,retain:=!decide (f &&& 1=0),topic:=s.bin,id:=0,props:=s.rdT.sec v,load:=(s.rdT.rdS v).rest },(s.rdT.rdS v).rdR):=by
   simp[publK,hq]
  rw[e];refine vcF ?_ (hp:=by simpa using hq)
  refine go ?_;refine vt20 (tr_sec hT hx (by omega)) fun y hy=>?_
  refine go ?_;refine vt1b (tr_rest hy.2.1) fun z hz=>?_
  refine go ?_;have hq:=hp.le hy.1;exact vrt0 (TpX.mk z.1 z.2 { sl with pa:=y.b,pc:=y.bp } y.c) ⟨hy.1,hz,⟨hq.hw,hq.hf,hq.hc,hy.2.2.1⟩,hs⟩ (hM:=by simp[Pk.li];repeat' first|rfl|omega|constructor)
 ·have e:publK v f s=({ zk 3 with dup:=!decide (f &&& 8=0),qos:=f / 2 &&& 3,retain:=!decide (f &&& 1=0),topic:=s.bin,id:=s.rdT.num 2,props:=(s.rdT.rd 2).sec v,load:=((s.rdT.rd 2).rdS v).rest },((s.rdT.rd 2).rdS v).rdR):=by
   simp[publK,hq]
  rw[e];refine vcT ?_ (hp:=by simpa using hq)
  refine go ?_;refine vt1b (tr_two hx) fun w hw=>?_
  refine go ?_;refine vt20 (tr_sec (s:=s.rdT.rd 2) hT hw (by omega)) fun y hy=>?_
  refine go ?_;refine vt1b (tr_rest hy.2.1) fun z hz=>?_
  refine go ?_;have hq:=hp.le hy.1;exact vrt0 (TpX.mk z.1 z.2 { sl with pa:=y.b,pc:=y.bp } y.c) ⟨hy.1,hz,⟨hq.hw,hq.hf,hq.hc,hy.2.2.1⟩,hs⟩ (hM:=by simp[Pk.li];repeat' first|rfl|omega|constructor)
def con3 (s:Ts):Ts:=(s.rd 1).need (decide (s.num 1 &&& 1=0))
def con5 (v:Int) (s:Ts):Ts:=((con3 s).rd 2).rdS v
def con0 (v:Int) (s:Ts):Pk:={ zk 1 with clean:=!decide (s.num 1 &&& 2=0),keep:=(con3 s).num 2,props:=((con3 s).rd 2).sec v,client:=(con5 v s).bin }
def conW (v:Int) (s:Ts):Pk × Ts:=willK v (s.num 1) (con0 v s) (con5 v s).rdT
def conU (v:Int) (s:Ts):Pk × Ts:=userK (s.num 1) (conW v s).1 (conW v s).2
theorem conF_len (v:Int) (s:Ts):(conF v s).l.length≤s.l.length:=Nat.le_trans (leftL_le _ _ _) (rdB_len s)
theorem tp_connect (hT:Tabs c) {q:Nat} {sl:Sl} (h:RdK c a cp s.l s.e) (hl:s.l.length≤100000) (hp:(zk 1).At sl c) (hs:sl.ca=none→sl.cc=0):Tp 99 [] c t r q v a cp s (zk 1) sl (connK v s):=by
 have n0:=conF_len v s;have n1:=num_le 1 (binL s.l s.e) (binE s.l s.e) 1 (by omega);refine Tr.in Tryz.func99 ?_;refine go ?_;refine vt1b (tr_bin h) fun x1 h1=>?_
 refine go ?_;refine vt1a (tr_need _ _) fun _ _=>?_
 refine go ?_;refine vck (fun _=>[(0,pt t),(1,pt q)]) (fun _=>c) (fun x:Option Addr × Nat=>[tkB t v r (conF v s).b,rdB r x.1 (conF v s).l.length x.2 (conF v s).e,pkB q (zk 1) sl]) (fun _=>[]) (fun x=>RdK c x.1 x.2 (conF v s).l (conF v s).e) ?_ fun x2 h2=>?_
 ·refine vh [2] ?_
  refine go ?_;refine vqx 1 ?_;refine vqx 1 ?_;refine vqx 1 ?_;refine vq2 (i:=4) (j:=10) (vilm ?_) (vilm ?_)
  ·refine vq2 (i:=5) (j:=10) (vi1b (tr_byte h1) fun x2 h2=>?_) (vilm ?_)
   ·refine go ?_
    refine vqlm ?_;refine go ?_;refine vqt1a (tr_need _ _) fun _ _=>?_
    refine go ?_;exact vj x2 h2
   ·refine vqt1b (tr_byte h1) fun x2 h2=>?_
    refine go ?_;refine vqt1a (tr_need _ _) fun _ _=>?_
    refine go ?_;exact vj x2 h2
  ·refine vqlm ?_
   refine vqt1b (tr_byte h1) fun x2 h2=>?_
   refine go ?_;refine vqt1a (tr_need _ _) fun _ _=>?_
   refine go ?_;exact vj x2 h2
 have eK:connK v s=passK ((conF v s).num 1) (conU v (conF v s)).1 (conU v (conF v s)).2:=rfl;rw[eK];generalize conF v s=S2 at *;have m1:=num_le 1 S2.l S2.e 1 (by omega);have m2:=num_le 2 (leftL 1 S2.l S2.e) (leftE 1 S2.l S2.e) 2 (by omega);have q1:=rd_len 1 S2;have q2:=rd_len 2 (con3 S2);have q3:(con3 S2).l.length=(S2.rd 1).l.length:=rfl;refine go ?_;refine vt1b (tr_byte h2) fun x3 h3=>?_
 refine go ?_;refine vt1a (tr_needx (y:=decide (S2.num 1 &&& 1=0)) _ (decide (((num (taken 1 S2.l S2.e) &&& 1:Nat):Int)=0)) (bI _)) fun _ _=>?_
 refine go ?_;refine vt1b (tr_two h3) fun x4 h4=>?_
 refine go ?_;refine vt20 (tr_sec (s:=(con3 S2).rd 2) hT h4 (by omega)) fun x5 h5=>?_
 have hT5:=hT.le h5.1;have p5:=hp.le h5.1;refine go ?_;refine vt20 (tr_text (s:=con5 v S2) hT5 h5.2.1) fun x6 h6=>?_
 have q5:=rdS_len v ((con3 S2).rd 2);have q6:=rdT_len (con5 v S2);have q7:(con5 v S2).l.length=(((con3 S2).rd 2).rdS v).l.length:=rfl;refine go ?_;refine vme (M':=[tkB t v r (con5 v S2).rdT.b,rdB r x6.1 (con5 v S2).rdT.l.length x6.2 (con5 v S2).rdT.e,pkB q (con0 v S2) { sl with pa:=x5.b,pc:=x5.bp }]) (by simp[con0,Pk.li,Ts.num];repeat' first|rfl|omega|constructor) ?_;refine vt30 (tp_will (f:=S2.num 1) hT5 m1 h6 (by omega) ⟨p5.hw,p5.hf,p5.hc,h5.2.2.1⟩ hs) fun x7 h7=>?_
 have hW:willK v (S2.num 1) (con0 v S2) (con5 v S2).rdT=conW v S2:=rfl;rw[hW]at h7 ⊢;have hU:conU v S2=userK (S2.num 1) (conW v S2).1 (conW v S2).2:=rfl;rw[hU];have hT7:=hT5.le h7.1;have k7:=h5.1.trans h7.1;generalize conW v S2=W at *;obtain ⟨pw,sw⟩:=W;dsimp only at h7 ⊢;refine go ?_;rcases Classical.em (S2.num 1 &&& 128=0) with hb|hb
 ·have e1:userK (S2.num 1) pw sw=({ pw with hasUser:=!decide (S2.num 1 &&& 128=0) },sw):=if_neg (by simp[hb])
  rw[e1];refine vcF ?_ (hp:=by simpa [Ts.num] using hb)
  refine go ?_;rcases Classical.em (S2.num 1 &&& 64=0) with hd|hd
  ·have e2:∀ p s,passK (S2.num 1) p s=({ p with hasPass:=!decide (S2.num 1 &&& 64=0) },s):=fun p s=>if_neg (by simp[hd])
   rw[e2];refine vcF ?_ (hp:=by simpa [Ts.num] using hd)
   refine go ?_;exact vrt0 (TpX.mk x7.a x7.cp x7.sl x7.c) ⟨k7,h7.2.1,⟨h7.2.2.1.hw,h7.2.2.1.hf,h7.2.2.1.hc,h7.2.2.1.hp⟩,h7.2.2.2⟩ (hM:=by simp[Pk.li,Ts.num];repeat' first|rfl|exact decide_eq_decide.2 Iff.rfl|constructor)
  ·have e2:∀ p s,passK (S2.num 1) p s=({ p with hasPass:=!decide (S2.num 1 &&& 64=0),pass:=s.bin },s.rdB):=fun p s=>if_pos (by simp[hd])
   rw[e2];refine vcT ?_ (hp:=by simpa [Ts.num] using hd)
   refine go ?_;refine vt1b (tr_bin h7.2.1) fun x8 h8=>?_
   refine go ?_;exact vrt0 (TpX.mk x8.1 x8.2 x7.sl x7.c) ⟨k7,h8,⟨h7.2.2.1.hw,h7.2.2.1.hf,h7.2.2.1.hc,h7.2.2.1.hp⟩,h7.2.2.2⟩ (hM:=by simp[Pk.li,Ts.num];repeat' first|rfl|exact decide_eq_decide.2 Iff.rfl|constructor)
 ·have e1:userK (S2.num 1) pw sw=({ pw with hasUser:=!decide (S2.num 1 &&& 128=0),user:=sw.bin },sw.rdT):=if_pos (by simp[hb])
  rw[e1];refine vcT ?_ (hp:=by simpa [Ts.num] using hb)
  refine go ?_;refine vt20 (tr_text (s:=sw) hT7 h7.2.1) fun x8 h8=>?_
  refine go ?_;rcases Classical.em (S2.num 1 &&& 64=0) with hd|hd
  ·have e2:∀ p s,passK (S2.num 1) p s=({ p with hasPass:=!decide (S2.num 1 &&& 64=0) },s):=fun p s=>if_neg (by simp[hd])
   rw[e2];refine vcF ?_ (hp:=by simpa [Ts.num] using hd)
   refine go ?_;exact vrt0 (TpX.mk x8.1 x8.2 x7.sl x7.c) ⟨k7,h8,⟨h7.2.2.1.hw,h7.2.2.1.hf,h7.2.2.1.hc,h7.2.2.1.hp⟩,h7.2.2.2⟩ (hM:=by simp[Pk.li,Ts.num];repeat' first|rfl|exact decide_eq_decide.2 Iff.rfl|constructor)
  ·have e2:∀ p s,passK (S2.num 1) p s=({ p with hasPass:=!decide (S2.num 1 &&& 64=0),pass:=s.bin },s.rdB):=fun p s=>if_pos (by simp[hd])
   rw[e2];refine vcT ?_ (hp:=by simpa [Ts.num] using hd)
   refine go ?_;refine vt1b (tr_bin h8) fun x9 h9=>?_
   refine go ?_;exact vrt0 (TpX.mk x9.1 x9.2 x7.sl x7.c) ⟨k7,h9,⟨h7.2.2.1.hw,h7.2.2.1.hf,h7.2.2.1.hc,h7.2.2.1.hp⟩,h7.2.2.2⟩ (hM:=by simp[Pk.li,Ts.num];repeat' first|rfl|exact decide_eq_decide.2 Iff.rfl|constructor)
structure FlX where
 a:Option Addr
 cp:Nat
 fa:Option Addr
 fp:Nat
 len:Nat
 xs:List Value
 acc:List Fi
 n:Nat
 S:Ts
theorem tp_filters (hT:Tabs c) {k:Int} (h:RdK c a cp s.l s.e) (hl:s.l.length≤100000):Tr Tryz.prog 105 [pt t,.int .i64 k] c [tkB t v r s.b,rdB r a s.l.length cp s.e] [] (fun x:TkX=>.slice x.b (filtK k s.l.length s).1.length x.bp) (fun x=>x.c) (fun x=>[tkB t v r (filtK k s.l.length s).2.b,rdB r x.a (filtK k s.l.length s).2.l.length x.cp (filtK k s.l.length s).2.e]) (fun _=>[])
  (fun x=>Le c x.c∧RdK x.c x.a x.cp (filtK k s.l.length s).2.l (filtK k s.l.length s).2.e∧Row x.c x.b (FC (filtK k s.l.length s).1)∧(x.b=none→x.bp=0)):=by
 refine Tr.in Tryz.func105 ?_;refine go ?_;refine vno_ 105 2 ?_;refine vlo (fun x:FlX=>[(0,pt t),(1,.int .i64 k),(5,.slice x.fa x.len x.fp)]) (fun _=>c) (fun x=>[tkB t v r x.S.b,rdB r x.a x.S.l.length x.cp x.S.e]) (fun x=>[⟨105,2,.slice x.fa x.len x.fp,x.len,x.xs⟩]) (fun x=>filtK k s.l.length s=(x.acc++(filtK k x.n x.S).1,(filtK k x.n x.S).2)∧x.S.l.length≤x.n∧x.len+x.n≤s.l.length∧x.len=x.acc.length∧x.xs=FC x.acc∧RdK c x.a x.cp x.S.l x.S.e) (fun x=>x.n) ⟨a,cp,none,0,0,[],[],s.l.length,s⟩ ⟨by simp,Nat.le_refl _,by simp,rfl,rfl,h⟩ fun ⟨a,cp,fa,fp,len,xs,acc,n,S⟩ ⟨j1,j2,j3,j4,j5,j6⟩=>?_
 dsimp only at j1 j2 j3 j4 j5 j6 ⊢;have c1:=tr_ok (c:=c) (t:=t) (v:=v) (r:=r) (s:=S) j6;have stop:¬ (S.ok=true∧0 < S.l.length)→filtK k s.l.length s=(acc,S):=fun h9=>filtK_end j1 h9
 by_cases hok:S.ok=true
 ·rw[hok]at c1
  refine go ?_;refine vt20 c1 fun _ _=>?_
  refine go ?_;refine vkc (kr_left j6 (.tail _ (.head _))) ?_;refine go ?_
  by_cases h0:0 < S.l.length
  ·obtain ⟨r1,r2⟩:=filtK_round (o:=if k=8 then S.rdT.num 1 else 0) (s':=if k=8 then S.rdT.rd 1 else S.rdT) j1 j2 ⟨hok,h0⟩ rfl rfl
   refine vcT ?_;refine go ?_;refine vt20 (tr_text hT j6) fun x1 h1=>?_
   refine go ?_;refine vA fun b1=>?_
   refine go ?_;have m1:=num1_lt S.rdT
   by_cases hk:k=8
   ·rw[if_pos hk]at r1 r2
    rw[if_pos hk]at r1;refine vcT ?_;refine go ?_;refine vt1c (tr_byte h1) fun x2 h2=>?_
    refine go ?_;refine vA fun b2=>?_
    refine vgb fun a' cp'=>?_
    refine go ?_;exact ved (ved (vj ⟨x2.1,x2.2,a',cp',len+1,xs++[.string S.bin,.int .u8 (S.rdT.num 1)],acc++[⟨S.bin,S.rdT.num 1⟩],n - 1,S.rdT.rd 1⟩ ⟨r1,r2,by dsimp only;omega,by simp[j4],by simp[j5,FC,Fi.cells],h2⟩ (hμ:=by dsimp only;omega)))
   ·rw[if_neg hk]at r1 r2
    rw[if_neg hk]at r1;refine vcF ?_;refine go ?_;refine vA fun b2=>?_
    refine vgb fun a' cp'=>?_
    refine go ?_;exact ved (ved (vj ⟨x1.1,x1.2,a',cp',len+1,xs++[.string S.bin,.int .u8 0],acc++[⟨S.bin,0⟩],n - 1,S.rdT⟩ ⟨r1,r2,by dsimp only;omega,by simp[j4],by simp[j5,FC,Fi.cells],h1⟩ (hμ:=by dsimp only;omega)))
  ·rw[stop (fun h9=>h0 h9.2)]
   refine vcF ?_;refine go ?_;refine vef9 fun c' hl' ho=>?_
   subst j4 j5;exact vrt (TkX.mk a cp fa fp c') ⟨hl',j6.le9 hl',ho.row,ho.nil⟩
 ·rw[stop (fun h9=>hok h9.1)]
  rw[Bool.eq_false_iff.2 hok]at c1;refine go ?_;refine vt20 c1 fun _ _=>?_
  refine go ?_;refine vef9 fun c' hl' ho=>?_
  subst j4 j5;exact vrt (TkX.mk a cp fa fp c') ⟨hl',j6.le9 hl',ho.row,ho.nil⟩
end
end Go.Proofs.YtofjhopecfmbcaaGreatDoor
