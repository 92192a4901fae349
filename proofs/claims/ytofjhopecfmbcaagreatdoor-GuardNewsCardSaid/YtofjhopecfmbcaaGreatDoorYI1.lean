import Derived.Test.YtofjhopecfmbcaaGreatDoorYH4
import Derived.Test.YtofjhopecfmbcaaGreatDoorYH9
import Derived.Test.YtofjhopecfmbcaaGreatDoorYH7
namespace Go.Proofs.YtofjhopecfmbcaaGreatDoor
open Go.RowKit
set_option linter.unusedVariables false
set_option linter.unusedSimpArgs false
set_option maxRecDepth 100000
set_option maxHeartbeats 8000000
abbrev frB (g:Nat) (v m:Int) (fst:Bool) (sl:Value) (e:Int):Bl:=⟨g,74,[.int .i64 v,.int .i64 m,.bool fst,sl,.int .i64 e]⟩
abbrev itL (p:Pk) (s:Sl) (u:Value):List Value:=p.li s++[u]
section
variable {c:World} {v m:Int} {fst:Bool} {g:Nat} {sl:Value} {e:Int} {n:Nat} {a:Option Addr} {l:List UInt8}
theorem by_clone (hr:Row c a (B8 l)) (hn:a=none→n=0) (hl:l.length≤140737000000000):By 21 [.slice a l.length n] c l:=OwnB.tn Tryz.func21 fun w k=>bclone_any a n l w (hr.le k) (row_none hr hn) hl
theorem tr_clone (hr:Row c a (B8 l)) (hn:a=none→n=0) (hl:l.length≤140737000000000):Tr Tryz.prog 21 [.slice a l.length n] c [] [] (fun x:Option Addr × Nat=>.slice x.1 l.length x.2) (fun _=>c) (fun _=>[]) (fun x=>[byR x.1 x.2 l]) (fun _=>True):=Tr.ownr Tryz.func21 fun w k=>bclone_any a n l w (hr.le k) (row_none hr hn) hl
theorem fit_form (h5:l.length≤100000):formOk v l=true→Fit (formP v l):=fun _=>(ok9_form h5).fit
theorem tr_nextE (hT:Tabs c) (hr:Row c a (B8 l)) (hn:a=none→n=0) (hl:l.length≤n) (h5:l.length≤100000) (h0:nextE v m fst l≠0):Tr Tryz.prog 20 [pt g,.slice a l.length n] c [frB g v m fst sl e] [] (fun _:World=>.tuple #[.agg (itL (zk 0) sl0 (.slice none 0 0)).toArray,.int .i64 (nextE v m fst l)]) (fun x=>x) (fun _=>[frB g v m fst sl e]) (fun _=>[]) (fun x=>Le c x):=by
 have c1:=ck_Head hr hn hl;have f2:=hd_head l;have f3:=hd_rest l;refine Tr.in Tryz.func20 ?_;refine go ?_;refine vA fun b1=>?_
 refine go ?_;refine vA fun b2=>?_
 by_cases h1:headE l=0
 case neg =>
  rw[show nextE v m fst l=headE l from if_pos h1];refine go ?_;refine EG.perm ?_ (List.perm_append_comm (l₁:=[_,_]) (l₂:=[_]))
  exact vrt2b (M2:=[_,_]) (R2:=[]) c (Le.refl c)
 by_cases h2:m < (headB l).head+((headB l).rest:Int)
 ·rw[show nextE v m fst l=5 from (if_neg (fun q=>q h1)).trans (if_pos h2)]
  refine go ?_;refine EG.perm ?_ (List.perm_append_comm (l₁:=[_,_]) (l₂:=[_]))
  exact vrt2b (M2:=[_,_]) (R2:=[]) c (Le.refl c)
 by_cases h3:fst=true∧(headB l).kind≠1
 ·rw[show nextE v m fst l=6 from (if_neg (fun q=>q h1)).trans ((if_neg h2).trans (if_pos h3))]
  obtain ⟨rfl,h3⟩:=h3;refine go ?_;refine EG.perm ?_ (List.perm_append_comm (l₁:=[_,_]) (l₂:=[_]))
  exact vrt2b (M2:=[_,_]) (R2:=[]) c (Le.refl c)
 by_cases h4:(l.length:Int) < (headB l).head+((headB l).rest:Int)
 ·rw[show nextE v m fst l=2 from (if_neg (fun q=>q h1)).trans ((if_neg h2).trans ((if_neg h3).trans (if_pos h4)))]
  cases fst
  ·refine go ?_
   refine EG.perm ?_ (List.perm_append_comm (l₁:=[_,_]) (l₂:=[_]))
   exact vrt2b (M2:=[_,_]) (R2:=[]) c (Le.refl c)
  ·have h3:(headB l).kind=1:=by simpa using h3
   refine go ?_;refine EG.perm ?_ (List.perm_append_comm (l₁:=[_,_]) (l₂:=[_]))
   exact vrt2b (M2:=[_,_]) (R2:=[]) c (Le.refl c)
 have e:nextE v m fst l=decE v (l.take (nextN l)):=(if_neg (fun q=>q h1)).trans ((if_neg h2).trans ((if_neg h3).trans (if_neg h4)));rw[e]at h0 ⊢;have eN:nextN l=(l.take (nextN l)).length:=by rw[List.length_take];unfold nextN;omega
 have e5:(l.take (nextN l)).length≤100000:=by rw[List.length_take];omega
 have hk:fst=false∨(fst=true∧(headB l).kind=1):=by
  cases fst
  ·exact .inl rfl
  ·exact .inr ⟨rfl,Decidable.not_not.1 fun q=>h3 ⟨rfl,q⟩⟩
 rcases hk with rfl|⟨rfl,h3⟩
 all_goals
  refine go ?_;refine vh [2] ?_;refine go ?_;refine vqst 0 fun a' g1 g2=>?_
  refine vqe (v':=.slice a' (l.take (nextN l)).length n) (by rw[← eN];rfl) ?_;have hD:=tn_Decode (v:=v) hT (l:=l.take (nextN l)) g1 g2 (by rw[List.length_take];omega) e5 (fit_form e5);refine vq2 (i:=7) (j:=11) (vitn hD fun x c' h6 h7=>?_) (viA fun b3=>?_)
  ·refine go ?_
   refine vqA fun b3=>?_
   refine go ?_;refine EG.perm ?_ (List.perm_append_comm (l₁:=[_,_,_]) (l₂:=[_]))
   exact vrt2b (M2:=[_,_,_]) (R2:=[]) c' h6
  ·refine vqtn hD fun x c' h6 h7=>?_
   refine go ?_;refine EG.perm ?_ (List.perm_append_comm (l₁:=[_,_,_]) (l₂:=[_]))
   exact vrt2b (M2:=[_,_,_]) (R2:=[]) c' h6
structure NxX where
 s:Sl
 a:Option Addr
 cp:Nat
 c:World
theorem tr_next0 (hT:Tabs c) (hr:Row c a (B8 l)) (hn:a=none→n=0) (hl:l.length≤n) (h5:l.length≤100000) (h0:nextE v m fst l=0):Tr Tryz.prog 20 [pt g,.slice a l.length n] c [frB g v m fst sl e] [] (fun x:NxX=>.tuple #[.agg (itL (decP v (l.take (nextN l))) x.s (.slice x.a (l.take (nextN l)).length x.cp)).toArray,.int .i64 0]) (fun x=>x.c) (fun _=>[frB g v m fst sl e]) (fun _=>[]) (fun x=>Le c x.c∧(decP v (l.take (nextN l))).At x.s x.c∧(x.s.ca=none→x.s.cc=0)∧Own9 x.c 5 x.a (l.take (nextN l)).length x.cp (B8 (l.take (nextN l)))):=by
 have c1:=ck_Head hr hn hl;have f2:=hd_head l;have f3:=hd_rest l;obtain ⟨h1,h2,h3,h4,hd⟩:=next_is h0;have h2':¬ m < (headB l).head+((headB l).rest:Int):=by omega
 have h4':¬ (l.length:Int) < (headB l).head+((headB l).rest:Int):=by omega
 refine Tr.in Tryz.func20 ?_;refine go ?_;refine vA fun b1=>?_
 refine go ?_;refine vA fun b2=>?_
 have eN:nextN l=(l.take (nextN l)).length:=by rw[List.length_take];unfold nextN;omega
 have e5:(l.take (nextN l)).length≤100000:=by rw[List.length_take];omega
 have hk:fst=false∨(fst=true∧(headB l).kind=1):=by
  cases fst
  ·exact .inl rfl
  ·exact .inr ⟨rfl,Decidable.not_not.1 fun q=>h3 ⟨rfl,q⟩⟩
 rcases hk with rfl|⟨rfl,h3⟩
 all_goals
  refine go ?_;refine vh [2] ?_;refine go ?_;refine vqst 0 fun a' g1 g2=>?_
  refine vqe (v':=.slice a' (l.take (nextN l)).length n) (by rw[← eN];rfl) ?_;have hD:=tn_Decode (v:=v) hT (l:=l.take (nextN l)) g1 g2 (by rw[List.length_take];omega) e5 (fit_form e5);rw[hd]at hD;refine vq2 (i:=7) (j:=11) (vitn hD fun x c' h6 h7=>?_) (viA fun b3=>?_)
  case' refine_1 =>
   refine go ?_;refine vqA fun b3=>?_
  case' refine_2 =>
   refine vqtn hD fun x c' h6 h7=>?_
  all_goals
   refine go ?_;refine vh [0] ?_;refine go ?_;refine vqst 0 (a:=a) (l:=l) (fun a2 k1 k2=>?_) (hr:=hr.le h6);refine vqe (v':=.slice a2 (l.take (nextN l)).length n) (by rw[← eN];rfl) ?_;refine vqtn (by_clone (l:=l.take (nextN l)) k1 k2 (by omega)) fun y c2 k3 k4=>?_
   refine vqbu 0 ?_;refine go ?_;refine EG.perm ?_ (List.perm_append_comm (l₁:=[_,_,_]) (l₂:=[_]))
   exact vrt2b (M2:=[_,_,_]) (R2:=[]) ⟨x,y.1,y.2,c2⟩ ⟨h6.trans k3,h7.1.le k3,h7.2,k4⟩
end
structure It where
 p:Pk
 s:Sl
 b:List UInt8
 a:Option Addr
 c:Nat
abbrev It.pb (x:It):Pk × List UInt8:=(x.p,x.b)
abbrev It.li (x:It):List Value:=itL x.p x.s (.slice x.a x.b.length x.c)
def IC (L:List It):List Value:=L.flatMap It.li
structure It.At (x:It) (c:World):Prop where
 p:x.p.At x.s c
 n:x.s.ca=none→x.s.cc=0
 b:Own9 c 5 x.a x.b.length x.c (B8 x.b)
theorem It.At.le {c c':World} {x:It} (h:x.At c) (k:Le c c'):x.At c':=⟨h.p.le k,h.n,h.b.le9 k⟩
theorem IC_add (L:List It) (x:It):IC (L++[x])=IC L++x.li:=by unfold IC;simp
theorem feedG_no {v m:Int} {fst:Bool} {l:List UInt8} {n:Nat} (h:nextE v m fst l≠0) (hn:l.length≤n):feedG v m n fst l=if nextE v m fst l=2 then ([],l,0) else ([],[],nextE v m fst l):=by
 cases n with
 | zero =>
  obtain rfl:l=[]:=List.length_eq_zero_iff.1 (by omega);rw[if_pos nextE_nil]
  rfl
 | succ n=>exact if_neg h
structure Rd9 (v m:Int) (N:Nat) (F:Bool) (l0:List UInt8) (L:List It) (n:Nat) (fst:Bool) (l:List UInt8):Prop where
 f:feedG v m N F l0=(L.map It.pb++(feedG v m n fst l).1,(feedG v m n fst l).2)
 n:l.length≤n
 s:fst=(F&&L.isEmpty)
theorem Rd9.go {v m:Int} {N n:Nat} {F fst:Bool} {l0 l:List UInt8} {L:List It} {x:It} (h:Rd9 v m N F l0 L n fst l) (h0:nextE v m fst l=0) (hp:x.pb=(decP v (l.take (nextN l)),l.take (nextN l))):Rd9 v m N F l0 (L++[x]) (n - 1) false (l.drop (nextN l)):=by
 have h1:=nextN_lt h0;have h2:=h.n;obtain ⟨k,rfl⟩:∃ k,n=k+1:=⟨n - 1,by omega⟩
 refine ⟨?_,by simp only[List.length_drop];omega,by simp⟩;rw[h.f,feedG_go h0,Nat.add_sub_cancel,List.map_append,List.append_assoc,List.map_singleton,hp]
 rfl
structure FdX where
 L:List It
 ia:Option Addr
 ic:Nat
 a:Option Addr
 cp:Nat
 c:World
structure LpX where
 L:List It
 ia:Option Addr
 ic:Nat
 n:Nat
 fst:Bool
 la:Option Addr
 lc:Nat
 l:List UInt8
 c:World
section
variable {c:World} {v m:Int} {g:Nat} {S:Fs} {a ab:Option Addr} {cp nb:Nat} {b:List UInt8}
theorem kr_ferr {fst:Bool} {sl:Value} {e:Int}:Tr Tryz.prog 19 [pt g] c [frB g v m fst sl e] [] (fun _:Unit=>.int .i64 e) (fun _=>c) (fun _=>[frB g v m fst sl e]) (fun _=>[]) (fun _=>True):=by
 refine Tr.in Tryz.func19 ?_;refine go ?_;refine vpz ?_;refine go ?_;exact vrt () trivial
theorem tr_Feed (hT:Tabs c) (hr:Row c ab (B8 b)) (hn:ab=none→nb=0) (hl:S.h.length+b.length≤100000):Tr Tryz.prog 13 [pt g,.slice ab b.length nb] c [frB g v m S.fst (.slice a S.h.length cp) S.e] [byR a cp S.h] (fun x:FdX=>.tuple #[.slice x.ia x.L.length x.ic,.int .i64 (feedS v m S b).2.e]) (fun x=>x.c) (fun x=>[frB g v m (feedS v m S b).2.fst (.slice x.a (feedS v m S b).2.h.length x.cp) (feedS v m S b).2.e]) (fun x=>[byR x.a x.cp (feedS v m S b).2.h])
  (fun x=>Le c x.c∧x.L.map It.pb=(feedS v m S b).1∧(∀ y∈x.L,y.At x.c)∧Row x.c x.ia (IC x.L)∧(x.ia=none→x.ic=0)):=by
 refine Tr.in Tryz.func13 ?_;refine go ?_;refine vsc ?_;obtain ⟨F,H,E⟩:=S
 by_cases he:E=0
 case neg =>
  have e:feedS v m ⟨F,H,E⟩ b=([],⟨F,H,E⟩):=if_pos he;rw[e];refine go ?_;refine vt1a kr_ferr fun _ _=>?_
  refine go ?_;refine vscr ?_;exact vrt2 (FdX.mk [] none 0 a cp c) ⟨Le.refl c,rfl,by simp,.nil _ _,fun _=>rfl⟩
 ·subst he
  have e:feedS v m ⟨F,H,0⟩ b=((feedG v m (H++b).length F (H++b)).1,⟨F&&(feedG v m (H++b).length F (H++b)).1.isEmpty,(feedG v m (H++b).length F (H++b)).2.1,(feedG v m (H++b).length F (H++b)).2.2⟩):=if_neg (fun q=>q rfl);rw[e];dsimp only at hl;refine go ?_;refine vt1a kr_ferr fun _ _=>?_
  refine go ?_;refine vgr hr hn (B8_one b) (fun a' cp'=>?_) (hb:=by dsimp only;omega);dsimp only;refine go ?_;refine vlb ?_;rw[← List.length_append,← B8_append];rw[← List.length_append]at hl;generalize H++b=l at *;clear e
  by_cases h0:nextE v m F l=0
  case neg =>
   rw[feedG_no h0 (Nat.le_refl _)];refine go ?_;refine vlo (α:=Unit) (fun _=>[(0,pt g),(7,.slice none 0 0),(8,.slice a' l.length cp')]) (fun _=>c) (fun _=>[frB g v m F (.slice a H.length cp) 0]) (fun _=>[byR a' cp' l]) (fun _=>True) (fun _=>0) () trivial fun _ _=>?_
   refine go ?_;refine vtl (fun c' h1 h2=>tr_nextE (hT.le h1) h2.row h2.nil h2.le hl h0) ?_;refine go ?_;refine vA fun b9=>?_
   by_cases h2:nextE v m F l=2
   ·rw[h2,if_pos rfl]
    refine go ?_;refine vh [1] ?_;refine go ?_;refine vscr ?_;refine ved ?_;exact vrt2 (FdX.mk [] none 0 a' cp' c) ⟨Le.refl c,rfl,by simp,.nil _ _,fun _=>rfl⟩ (hM:=by simp)
   ·rw[if_neg h2]
    refine go ?_;refine vh [1] ?_;refine go ?_;refine vscr ?_;refine ved ?_;refine EG.dropr ?_;refine EG.nilr 5 1 ?_;exact vrt2 (FdX.mk [] none 0 none 0 c) ⟨Le.refl c,rfl,by simp,.nil _ _,fun _=>rfl⟩ (hM:=by simp)
  ·refine go ?_
   refine CG.nilr 63 26 ?_;refine CG.permr ?_ (.swap _ _ _)
   refine vcf9 fun c1 l1 o1=>?_
   refine vlo (α:=LpX) (fun x=>[(0,pt g),(7,.slice x.ia x.L.length x.ic),(8,.slice x.la x.l.length x.lc)]) (fun x=>x.c) (fun x=>[frB g v m x.fst (.slice a H.length cp) 0]) (fun x=>[⟨63,26,.slice x.ia x.L.length x.ic,x.L.length,IC x.L⟩]) (fun x=>Le c x.c∧Rd9 v m l.length F l x.L x.n x.fst x.l∧(∀ y∈x.L,y.At x.c)∧(x.L=[]→nextE v m x.fst x.l=0)∧Row x.c x.la (B8 x.l)∧(x.la=none→x.lc=0)∧x.l.length≤x.lc∧x.l.length≤100000∧x.L.length+x.l.length≤100000) (fun x=>x.l.length) ⟨[],none,0,l.length,F,a',cp',l,c1⟩ ⟨l1,⟨rfl,Nat.le_refl _,by simp⟩,by simp,fun _=>h0,o1.row,o1.nil,o1.le,hl,by simpa using hl⟩ fun x ⟨x1,x2,x3,x4,x5,x6,x7,x8,x9⟩=>?_
   by_cases h1:nextE v m x.fst x.l=0
   ·refine go ?_
    refine vt1a (tr_next0 (hT.le x1) x5 x6 x7 x8 h1) fun y ⟨y1,y2,y3,y4⟩=>?_
    refine go ?_;refine vA fun b9=>?_
    refine go ?_;refine vA fun b8=>?_
    refine vgb fun a2 c2=>?_
    refine go ?_;have hN:=nextN_lt h1;have e0:(x.l.take (nextN x.l)).length=nextN x.l:=by rw[List.length_take];omega
    refine vslf (hr:=x5.le y1) fun a3 k1 k2=>?_
    have e1:(((x.l.take (nextN x.l)).length:Int)).toNat=nextN x.l:=by rw[Int.toNat_natCast,List.length_take];omega
    rw[e1]at k1 k2 ⊢;rw[List.take_of_length_le (by rw[List.length_drop];exact Nat.le_refl _)]at k1;rw[← List.length_drop];refine go ?_;refine ved (ved (vj ⟨x.L++[⟨decP v (x.l.take (nextN x.l)),y.s,x.l.take (nextN x.l),y.a,y.cp⟩],a2,c2,x.n - 1,false,a3,x.lc - nextN x.l,x.l.drop (nextN x.l),y.c⟩ ⟨x1.trans y1,x2.go h1 rfl,?_,by simp,k1,k2,?_,?_,?_⟩ (hμ:=?_) (hL:=?_) (hR:=?_)))
    all_goals dsimp only
    ·intro z hz
     rcases List.mem_append.1 hz with hz|hz
     ·exact (x3 z hz).le y1
     ·rw[List.mem_singleton.1 hz]
      exact ⟨y2,y3,y4⟩
    ·rw[List.length_drop];omega
    ·rw[List.length_drop];omega
    ·rw[List.length_drop,List.length_append,List.length_singleton];omega
    ·rw[List.length_drop];omega
    ·rw[List.length_append,List.length_singleton]
     repeat' (first|exact trivial|refine ⟨rfl,?_⟩)
    ·rw[IC_add,List.length_append,List.length_singleton]
     rfl
   ·have hL:0 < x.L.length:=List.length_pos_iff.2 fun q=>h1 (x4 q)
    rw[x2.f,feedG_no h1 x2.n];refine go ?_;refine vt1a (tr_nextE (hT.le x1) x5 x6 x7 x8 h1) fun c2 hc2=>?_
    refine go ?_;refine vA fun b9=>?_
    by_cases h2:nextE v m x.fst x.l=2
    ·rw[h2,if_pos rfl]
     refine go ?_;refine vt0r (tr_clone (x5.le hc2) x6 (by omega)) fun y _=>?_
     refine go ?_;refine vh [1] ?_;refine go ?_;refine vscr ?_;refine ved ?_;refine EG.permr ?_ (.swap _ _ _)
     refine vef9 fun c3 l3 o3=>?_
     exact vrt2 (FdX.mk x.L x.ia x.ic y.1 y.2 c3) ⟨(x1.trans hc2).trans l3,by simp,fun z hz=>(x3 z hz).le (hc2.trans l3),o3.row,o3.nil⟩ (hM:=by simp[x2.s])
    ·rw[if_neg h2]
     refine go ?_;refine vt0r (tr_clone (l:=[]) (a:=none) (n:=0) (.nil _ _) (fun _=>rfl) (by simp)) fun y _=>?_
     refine go ?_;refine vh [1] ?_;refine go ?_;refine vscr ?_;refine ved ?_;refine EG.permr ?_ (.swap _ _ _)
     refine vef9 fun c3 l3 o3=>?_
     exact vrt2 (FdX.mk x.L x.ia x.ic y.1 y.2 c3) ⟨(x1.trans hc2).trans l3,by simp,fun z hz=>(x3 z hz).le (hc2.trans l3),o3.row,o3.nil⟩ (hM:=by simp[x2.s])
theorem tr_New {fst:Bool} (hv:v=4∨v=5) (hm:2≤m):Tr Tryz.prog 10 [.int .i64 v,.int .i64 m,.bool fst] c [] [] (fun g:Nat=>.tuple #[pt g,.int .i64 0]) (fun _=>c) (fun g=>[frB g v m fst (.slice none 0 0) 0]) (fun g=>[byR none 0 []]) (fun _=>True):=by
 refine Tr.in Tryz.func10 ?_;rcases hv with rfl|rfl
 all_goals
  refine go ?_;refine vA fun g=>?_
  refine go ?_;refine EG.nilr 5 1 ?_;exact vrt2 g trivial
end
end Go.Proofs.YtofjhopecfmbcaaGreatDoor
