import Derived.Test.YtohmcfmcbibbcaaGreatDoorYI6
import Derived.Test.YtohmcfmcbibbcaaGreatDoorYH4
import Derived.Test.YtohmcfmcbibbcaaGreatDoorYH9
import Derived.Laws.CopyRow
import Derived.Test.YtohmcfmcbibbcaaGreatDoorYK3
import Derived.Test.YtohmcfmcbibbcaaGreatDoorYH3
namespace Go.Proofs.YtohmcfmcbibbcaaGreatDoor
open Go.RowKit
set_option linter.unusedVariables false
set_option linter.unusedSimpArgs false
set_option maxRecDepth 100000
set_option maxHeartbeats 8000000
theorem vefb {P:Program} {Q:Kn} {ex:Exit} {N:Nat} {L:List (Nat × Value)} {c:World} {M:List Bl} {R:List Rwv} {b:Nat} {t:TypeId} {l:List Value} (h:∀ c',Le c c'→Row c' (some ⟨b,0,none⟩) l→EG P Q ex N L c' M R):EG P Q ex N L c (⟨b,t,l⟩ :: M) R :=
 ⟨fun κ A w F S=>by obtain ⟨c',h1,h2,h3⟩:=S.freezeB;exact (h c' h1 h2).h κ A w F h3⟩
abbrev tr9:Value:=.agg #[.int .i64 4,.int .u8 0,.int .u8 129,.int .u8 0]
def pc9:Pk:={ zk 1 with clean:=true,client:=⟨#[97]⟩ }
section
variable {c:World}
theorem ck_odd {n:Nat} (h:n < 256):Ck Tryz.prog 85 [.int .u8 n] c (.bool (decide (n % 2=1))):=by
 refine Ck.in Tryz.func85 ?_
 repeat' first|refine go ?_|refine vrb ?_|fail
 all_goals (congr 1;apply propext;omega)
theorem ck_row:Ck Tryz.prog 190 [tr9] c (.int .i64 0):=by
 refine Ck.in Tryz.func190 ?_
 repeat' first|refine go ?_|refine vA fun b=>?_|refine vri ?_|fail
 all_goals rfl
theorem ck_rec:Ck Tryz.prog 270 [tr9] c (.int .u32 1):=by
 refine Ck.in Tryz.func270 ?_
 repeat' first|refine go ?_|refine vA fun b=>?_|refine vq ?_|refine vri ?_|fail
 all_goals rfl
theorem ck_chosen {x u:Value}:Ck Tryz.prog 269 [tr9,x,u] c (.slice none 0 0):=by
 refine Ck.in Tryz.func269 ?_
 repeat' first|refine go ?_|refine vA fun b=>?_|refine vrv ?_|fail
 all_goals rfl
theorem ck_con9:Ck Tryz.prog 234 [tr9] c (pc9.val sl0):=by
 have o:=ck_odd (c:=c) (n:=129) (by decide);have r:=ck_rec (c:=c);have h:=fun x u=>ck_chosen (c:=c) (x:=x) (u:=u)
 refine Ck.in Tryz.func234 ?_
 repeat' first|refine go ?_|refine vA fun b=>?_|fail
 refine vh [2] ?_
 repeat' first
  | refine go ?_
  | refine vqx 0 ?_
  | refine vqbu 0 ?_
  | refine vqbu 1 ?_
  | refine vqkk r ?_
  | refine vqA fun b=>?_
  | refine vqkk (h _ _) ?_
  | fail
 exact vrv rfl
theorem ck_pac:Ck Tryz.prog 192 [tr9] c (pc9.val sl0):=by
 have o:=ck_row (c:=c);have h:=ck_con9 (c:=c);refine Ck.in Tryz.func192 ?_
 repeat' first|refine go ?_|refine vA fun b=>?_|refine vrv ?_|fail
 all_goals rfl
def pb9:List UInt8:=[16,13,0,4,77,81,84,84,4,2,0,0,0,1,97]
theorem pc9_enc:encL 4 pc9=pb9∧eN 4 pc9=0:=by constructor<;>kernel_rfl
theorem pc9_fit:Fit pc9:=by
 refine ⟨⟨?_,?_,?_,?_⟩,⟨?_,?_⟩,⟨?_,?_,?_,?_,?_,?_,?_,?_,?_,?_,?_,?_,?_,?_⟩,?_,?_,?_,?_,?_,?_⟩
 all_goals first|decide|(intro x hx;cases hx)
theorem tn_sends (hT:Tabs c):Tn Tryz.prog 139 [tr9] c (fun y:Option Addr × Nat=>.tuple #[.int .i64 0,.slice y.1 15 y.2]) (fun y c'=>Own9 c' 5 y.1 15 y.2 (B8 pb9)):=by
 have o:=ck_row (c:=c);have h:=ck_pac (c:=c);have te:=tn_Encode hT 4 pc9 sl0 ⟨.nil _ _,.nil _ _,.nil _ _,.nil _ _⟩ (fun _=>rfl) pc9_fit;rw[pc9_enc.1,pc9_enc.2]at te;refine Tn.in Tryz.func139 ?_;have k1:pc9.kind=1:=rfl
 repeat' first|refine go ?_|refine vA fun b=>?_|fail
 refine vtn te fun y c1 l1 o1=>?_
 refine go ?_;exact ved (ved (vrn2 (y,c1) ⟨l1,o1⟩))
theorem tn_events (hT:Tabs c):Tn Tryz.prog 86 [tr9] c (fun y:Nat=>.slice (some ⟨y,0,none⟩) 1 1) (fun y c'=>Row c' (some ⟨y,0,none⟩) [.int .i64 0,.string ⟨pb9.toArray⟩]):=by
 refine Tn.in Tryz.func86 ?_
 repeat' first|refine go ?_|refine vA fun b=>?_|fail
 refine vtn (tn_sends hT) fun y c1 l1 o1=>?_
 have r1:=o1.row;have n1:=o1.nil;have e1:(15:Nat)=pb9.length:=rfl
 repeat' first|refine go ?_|refine vA fun b=>?_|fail
 refine vefb fun c2 l2 r2=>?_
 exact ved (vrn (_,c2) ⟨l1.trans l2,r2⟩)
end
section
variable {P:Program} {t1 z1 t2 z2:Nat} {o1 o2:List Nat} {k1 k2:TK} {b1 b2:Bool} {ops:Array Oper} {Q:Kn} {rest:List Oper} {N n i fuel:Nat} {listed listed':List Bool} {L:List (Nat × Value)} {cH c:World} {H M:List Bl} {R:List Rwv} {v:Value} {ty:TypeId} {ps:String} {af:Array Edge} {gd:Option (Nat × Bool)} {x y:Operand}
theorem vas [Tbv P] {t e b m:Nat} (kk:LG P ops Q rest N ((n,.slice (some ⟨b,0,none⟩) m m) :: L) c M R) (hx:lko L x=some (.pointer (some ⟨b,0,none⟩)):=by rfl) (hT:fty (Tbv.ts P) t=some ⟨t1,true,z1,o1,.ar m e⟩:=by rfl) (hE:fty (Tbv.ts P) e=some ⟨t2,b2,z2,o2,k2⟩:=by rfl) (hw:wtd ops L gd=some true:=by rfl) (hn:Nat.blt n N=true:=by rfl) :
  LG P ops Q (⟨some n,.slice t x none none none,ty,ps,af,gd⟩ :: rest) N L c M R :=
 kk.do_ (fun κ A w F S=>ex_slice rfl (F.v hx) (l:=none) (h:=none) (m:=none) rfl rfl rfl (by
  have h1:=ty_ar hT;have he:P.elem t=e:=by simp[Program.elem,h1]
  have hl:P.arrayLen t=m:=by simp[Program.arrayLen,h1]
  rw[run_sliceAt_array_all w t _ (by rw[he,hl];exact h1),he,ty_size hE w,hl];simp[Result.andThen,slicedAt,Addr.add_lit])) hw hn
theorem vcpy [Tbv P] {t e b tb m sl sc:Nat} {l xs l':List Value} {M1:List Bl} {ad:Addr} (kk:LG P ops Q rest N ((n,.int .i64 m) :: L) c (⟨b,tb,l'⟩ :: M1) R) (hr:Row c (some ad) xs) (h1:∀ z∈xs,z.oneCell'=true) (hl:m≤xs.length) (hl':xs.take m=l') (hs:m≤sl:=by omega) (hx:lko L x=some (.slice (some ⟨b,0,none⟩) m m):=by rfl) (hy:lko L y=some (.slice (some ad) sl sc):=by rfl) (hm:l.length=m:=by rfl) (hu:fty (Tbv.ts P) t=some ⟨t1,false,z1,o1,.sl e⟩:=by rfl) (hi:infoOk P e 1=true:=by kernel_rfl) (hw:wtd ops L gd=some true:=by rfl) (hn:Nat.blt n N=true:=by rfl) :
  LG P ops Q (⟨some n,.call { callee:=.builtin .copy,args:=#[x,y],argTypes:=#[t,t] },ty,ps,af,gd⟩ :: rest) N L c (⟨b,tb,l⟩ :: M1) R :=
 ⟨fun κ a w F S=>by
  subst hl';obtain ⟨I,z,q1,q2,q3,q4,q5,q6⟩:=infoOk_ok hi;have hB:Blk w b tb l.toArray:=S.m ⟨b,tb,l⟩ (by simp);have hlt:(xs.take m).length=m:=by simp[hl]
  have r1:=run_copy_row P w t t ty e b 0 m m ad sl sc l.toArray tb (xs.take m) (ty_sl hu) (by rw[q1];simpa using q3) hB (by rw[hlt];exact (Nat.min_eq_right hs).symm) (fun j v hj=>(hr.le S.le).at_add ad rfl j v (by
   have:=(List.getElem?_eq_some_iff.1 hj).1
   rwa [List.getElem?_take,if_pos (by omega)]at hj)) (by rw[hlt];simp[hm]) (fun v hv=>h1 v (List.mem_of_mem_take hv))
  have e1:(l.toArray.toList.take 0++xs.take m++l.toArray.toList.drop (0+(xs.take m).length)).toArray=(xs.take m).toArray:=by rw[hlt];simp[← hm]
  rw[e1,hlt]at r1;refine hz_w F hn (wtd_ok F hw) (ex_builtin (l:=[x,y]) rfl (gx_l1 (F.v hx) (gx_l1 (F.v hy) gx_l0)) (fun cs=>by simp only[builtin];exact gx_val r1)) fun A' F'=>?_
  refine kk.h κ A' _ F' (S.setl (A:=[]) ⟨rfl,rfl,rfl,by simp[World.setRow],fun k hk hn=>?_⟩ ?_)
  ·have:b≠k:=fun e=>hn e.symm
   simp[World.setRow,Array.getElem?_modify,this]
  ·unfold Blk at hB ⊢
   show (w.heap.modify b _)[b]?=_;rw[Array.getElem?_modify,if_pos rfl,hB]
   rfl⟩
theorem HG.nlr (e k:Nat) (h:HG P ops Q cH H fuel listed N L c M (⟨e,k,.slice none 0 0,0,[]⟩ :: R)):HG P ops Q cH H fuel listed N L c M R:=⟨fun hc hH κ a w F S=>h.h hc hH κ a w F (S.nilrow e k)⟩
end
section
variable {c:World}
def rd9:List UInt8:=[0,99,0,129,0]
theorem tn_Read (hT:Tabs c) {ad:Addr} {cp:Nat} (hr:Row c (some ad) (B8 rd9)) (hc:5≤cp):Tn Tryz.prog 35 [.slice (some ad) 5 cp] c (fun y:Option Addr × Nat=>.agg #[.int .i64 4,.int .i64 412,.slice y.1 1 y.2]) (fun y c'=>Row c' y.1 [.int .i64 0,.string ⟨pb9.toArray⟩]):=by
 refine Tn.in Tryz.func35 ?_;have o:=ck_odd (c:=c) (n:=0) (by decide)
 repeat' first|refine go ?_|fail
 refine vA fun b2=>?_
 repeat' first|refine go ?_|fail
 refine vA fun b1=>?_
 repeat' first|refine go ?_|fail
 refine vas ?_;refine go ?_;have h1:∀ z∈B8 rd9,z.oneCell'=true:=by intro z hz;simp[B8,rd9]at hz;rcases hz with h|h|h|h|h<;>subst h<;>rfl
 have hl9:2≤(B8 rd9).length:=by decide
 have hn9:some ad=none→cp=0:=by intro h;cases h
 refine vcpy (l':=[.int .u8 0,.int .u8 99]) ?_ hr h1 hl9 rfl;refine vslf (l:=rd9) (fun a2 hr2 hn2=>?_);have hr3:Row c a2 (B8 [0,129,0]):=hr2;refine go ?_
 repeat' first|refine go ?_|refine vA fun b=>?_|refine vixa 1 ?_|refine vixa 0 ?_|fail
 refine vmi ?_
 repeat' first|refine go ?_|fail
 refine vlo (fun y:Option (Option Addr × Nat × World)=>match y with|none=>[(4,.slice a2 3 (cp - 2)),(5,pt b),(25,.int .i64 1),(26,.int .i64 0),(2,pt b2)]|some _=>[(5,pt b),(25,.int .i64 1),(26,.int .i64 1),(2,pt b2)]) (fun y=>match y with|none=>c|some z=>z.2.2) (fun y=>match y with|none=>[⟨b,89,[.int .i64 4,.int .i64 412,.slice none 0 0]⟩,⟨b1,147,[.int .u8 0,.int .u8 99]⟩,⟨b2,89,[.int .i64 0,.int .i64 0,.slice none 0 0]⟩]|some z=>[⟨b,89,[.int .i64 4,.int .i64 412,.slice z.1 1 z.2.1]⟩,⟨b1,147,[.int .u8 0,.int .u8 99]⟩,⟨b2,89,[.int .i64 0,.int .i64 0,.slice none 0 0]⟩]) (fun y=>match y with|none=>[]|some z=>[⟨145,2,.slice z.1 1 z.2.1,1,[.int .i64 0,.string ⟨pb9.toArray⟩]⟩]) (fun y=>match y with|none=>True|some z=>Le c z.2.2) (fun y=>match y with|none=>1|some _=>0) none trivial fun y hy=>?_
 rcases y with _|⟨a',cp',c3⟩
 ·refine go ?_
  repeat' first|refine go ?_|fail
  dsimp only;have g0:0 < [(0:UInt8),129,0].length:=by decide
  have g1:1 < [(0:UInt8),129,0].length:=by decide
  have g2:2 < [(0:UInt8),129,0].length:=by decide
  obtain ⟨e0,p0,R0⟩:=hr3.by8 g0;obtain ⟨e1,p1,R1⟩:=hr3.by8 g1;obtain ⟨e2,p2,R2⟩:=hr3.by8 g2;refine vh [0] ?_
  repeat' first|refine go ?_|refine vqx 0 ?_|refine vqA fun b3=>?_|refine vqt0 ?_|refine vqt1 ?_|refine vqx 0 ?_ rfl rfl rfl (qh_q (qix rfl rfl R0 rfl (by decide) rfl rfl))|refine vqx 0 ?_ rfl rfl rfl (qh_q (qix rfl rfl R1 rfl (by decide) rfl rfl))|refine vqx 0 ?_ rfl rfl rfl (qh_q (qix rfl rfl R2 rfl (by decide) rfl rfl))|refine vqx 0 ?_ rfl rfl rfl (qh_q (qr1 rfl R0 rfl rfl))|refine vqx 0 ?_ rfl rfl rfl (qh_q (qr1 rfl R1 rfl rfl))|refine vqx 0 ?_ rfl rfl rfl (qh_q (qr1 rfl R2 rfl rfl))|fail
  refine vqbu 0 ?_;refine vqA fun b3=>?_
  refine vqt0 (l':=[.int .i64 4,.int .u8 0,.int .u8 129,.int .u8 0]) ?_
  repeat' first|refine go ?_|fail
  refine vh [0] ?_;refine vqx 0 ?_;refine vqx 1 ?_;have te:=tn_events hT;refine vq2 (i:=1) (j:=3) (vilm ?_) (vitn te fun y3 c4 l4 r4=>?_)
  ·refine vqtn te fun y3 c4 l4 r4=>?_
   refine HG.nlr 145 2 ?_;refine vqgr (l:=[.int .i64 0,.string ⟨pb9.toArray⟩]) r4 (by intro h;cases h) (by decide) fun a5 cp5=>?_
   refine vqx 0 ?_;refine vqt1 (l':=[.int .i64 4,.int .i64 412,.slice a5 1 cp5]) ?_
   repeat' first|refine go ?_|fail
   refine vslf (l:=[0,129,0]) (fun a6 hr6 hn6=>?_) (hr:=hr3.le l4) (hm:=by simp;omega) (hn9:=fun h=>by have:=hn2 h;simpa using this)
   repeat' first|refine go ?_|fail
   exact ved (vj (some (a5,cp5,c4)) l4 Nat.zero_lt_one)
  ·refine vqlm ?_
   refine HG.nlr 145 2 ?_;refine vqgr (l:=[.int .i64 0,.string ⟨pb9.toArray⟩]) r4 (by intro h;cases h) (by decide) fun a5 cp5=>?_
   refine vqx 0 ?_;refine vqt1 (l':=[.int .i64 4,.int .i64 412,.slice a5 1 cp5]) ?_
   repeat' first|refine go ?_|fail
   refine vslf (l:=[0,129,0]) (fun a6 hr6 hn6=>?_) (hr:=hr3.le l4) (hm:=by simp;omega) (hn9:=fun h=>by have:=hn2 h;simpa using this)
   repeat' first|refine go ?_|fail
   exact ved (vj (some (a5,cp5,c4)) l4 Nat.zero_lt_one)
 ·repeat' first|refine go ?_|fail
  dsimp only at hy ⊢;refine vefz fun c4 l4 r4 n4 m4 x4=>?_
  exact vrn ((a',cp'),c4) ⟨hy.trans l4,r4⟩
end
section
variable {c:World} {g:Nat} {G:Gp} {s:Ga}
theorem tr_Phase:Tr Tryz.prog 135 [pt g] c [gdB g G s] [] (fun _:Unit=>.int .i64 G.ph) (fun _=>c) (fun _=>[gdB g G s]) (fun _=>[]) (fun _=>True):=by
 refine Tr.in Tryz.func135 ?_;refine go ?_;refine vpz ?_
 repeat' first|refine go ?_|refine vc (fun _=>?_) fun _=>?_|fail
 all_goals exact vrt () trivial
theorem feed9:feedS 4 412 ⟨true,[],0⟩ pb9=([(pc9,pb9)],⟨false,[],0⟩):=by kernel_rfl
end
abbrev ac9:List Value:=[.int .i64 1,.int .i64 0,.int .u8 0,.string ⟨pb9.toArray⟩]
abbrev g9:Gp:=Gp.new 4 Lm.std Lm.std
structure GfX where
 a:Option Addr
 cp:Nat
 xa:Option Addr
 xc:Nat
 c:World
section
variable {c:World} {g f0 f1:Nat}
theorem tr_gFeed9 (hT:Tabs c) {ab:Option Addr} {nb:Nat} (hr:Row c ab (B8 pb9)) (hn:ab=none→nb=0):Tr Tryz.prog 84 [pt g,.int .i64 0,.slice ab 15 nb] c [frB f0 4 412 true (.slice none 0 0) 0,gdB g g9 (Ga.new (some ⟨f0,0,none⟩) (some ⟨f1,0,none⟩))] [byR none 0 []] (fun y:GfX=>.slice y.a 1 y.cp) (fun y=>y.c) (fun y=>[frB f0 4 412 false (.slice y.xa 0 y.xc) 0,gdB g (connP g9 pc9) (Ga.new (some ⟨f0,0,none⟩) (some ⟨f1,0,none⟩))]) (fun y=>[byR y.xa y.xc []]) (fun y=>Le c y.c∧Row y.c y.a ac9∧(y.a=none→y.cp=0)):=by
 have c1:=ck_there (c:=c) 0;have t2:=tr_Phase (c:=c) (g:=g) (G:=g9) (s:=Ga.new (some ⟨f0,0,none⟩) (some ⟨f1,0,none⟩));have t3:=tr_Feed (g:=f0) (v:=4) (m:=412) (S:=⟨true,[],0⟩) (a:=none) (cp:=0) (b:=pb9) (nb:=nb) hT hr hn (by decide);rw[feed9]at t3;refine Tr.in Tryz.func84 ?_
 repeat' first|refine go ?_|refine vt1b t2 fun _ _=>?_|fail
 repeat' first|refine go ?_|refine vixa 0 ?_|fail
 refine vt11 t3 fun x hx=>?_
 obtain ⟨L9,ia,ic,xa,xcp,c3⟩:=x;obtain ⟨x1,x2,x3,x4,x5⟩:=hx;dsimp only at x1 x2 x3 x4 x5 ⊢
 obtain ⟨it,rfl⟩:∃ it,L9=[it]:=by
  rcases L9 with _|⟨it,_|⟨_,_⟩⟩<;>simp at x2
  exact ⟨it,rfl⟩
 repeat' first|refine go ?_|fail
 refine CG.nilr 92 4 ?_;refine vlo (fun y:Option (Option Addr × Nat)=>match y with|none=>[(0,pt g),(1,.int .i64 0),(8,.int .i64 0),(9,.slice none 0 0),(33,.slice ia 1 ic),(34,.int .i64 1),(35,.int .i64 0)]|some z=>[(0,pt g),(1,.int .i64 0),(8,.int .i64 0),(9,.slice z.1 1 z.2),(33,.slice ia 1 ic),(34,.int .i64 1),(35,.int .i64 1)]) (fun _=>c3) (fun y=>match y with|none=>[frB f0 4 412 false (.slice xa 0 xcp) 0,gdB g g9 (Ga.new (some ⟨f0,0,none⟩) (some ⟨f1,0,none⟩))]|some _=>[frB f0 4 412 false (.slice xa 0 xcp) 0,gdB g (connP g9 pc9) (Ga.new (some ⟨f0,0,none⟩) (some ⟨f1,0,none⟩))]) (fun y=>match y with|none=>[⟨92,4,.slice none 0 0,0,[]⟩,byR xa xcp []]|some z=>[⟨92,4,.slice z.1 1 z.2,1,ac9⟩,byR xa xcp []]) (fun _=>True) (fun y=>match y with|none=>1|some _=>0) none trivial fun y _=>?_
 rcases y with _|⟨a',cp'⟩
 ·dsimp only
  obtain ⟨b5,o5,hR⟩:=Row.fm (f:=It.li) (k:=26) x4 (fun x _=>rfl) (by decide) (j:=0) Nat.zero_lt_one;have hA:=x3 it (by simp);obtain ⟨p,sl,bb,ba,bc⟩:=it;obtain ⟨rfl,rfl⟩:p=pc9∧bb=pb9:=by simpa using x2
  have hI:=hA.b;have t9:=tr_look1 (c:=c3) (g:=g) (G:=g9) (s:=Ga.new (some ⟨f0,0,none⟩) (some ⟨f1,0,none⟩)) (hT.le x1) (p:=pc9) (sl:=sl) (a:=ba) (n:=15) (cp:=bc) rfl rfl (by decide) hA.p;replace hR:Rat c3 ia 26 0 b5 o5 (itL pc9 sl (.slice ba 15 bc)):=hR;have hB:Row c3 ba (B8 pb9):=hI.row;have hN:ba=none→bc=0:=hI.nil;clear x2 x3 x4 t3 t2 hI;refine go ?_
  repeat' first|refine go ?_|refine vix ?_|refine vlr ?_|fail
  refine vA fun b9=>?_
  repeat' first|refine go ?_|fail
  refine vt1c (t9 pc9_fit (by decide) (by decide) (by decide)) fun _ _=>?_
  repeat' first|refine go ?_|refine vA fun b8=>?_|fail
  refine vgb fun a8 n8=>?_
  repeat' first|refine go ?_|fail
  exact ved (ved (vj (some (a8,n8)) trivial Nat.zero_lt_one))
 ·dsimp only
  repeat' first|refine go ?_|fail
  refine vefz fun c4 l4 r4 n4 m4 x4=>?_
  exact vrt (GfX.mk a' cp' xa xcp c4) ⟨x1.trans l4,r4,n4⟩
end
section
variable {c:World}
theorem vlfB9 {P:Program} {ops:Array Oper} {Q:Kn} {rest:List Oper} {N:Nat} {L:List (Nat × Value)} {c:World} {M:List Bl} {R:List Rwv} {b:Nat} {t:TypeId} {l:List Value} (h:∀ c',Le c c'→Row c' (some ⟨b,0,none⟩) l→LG P ops Q rest N L c' M R):LG P ops Q rest N L c (⟨b,t,l⟩ :: M) R :=
 ⟨fun κ A w F S=>by obtain ⟨c',h1,h2,h3⟩:=S.freezeB;exact (h c' h1 h2).h κ A w F h3⟩
structure RuX where
 a:Option Addr
 cp:Nat
 xa:Option Addr
 xc:Nat
 c:World
theorem tn_Run9 (hT:Tabs c) {a:Option Addr} {cp:Nat} (hr:Row c a [.int .i64 0,.string ⟨pb9.toArray⟩]):Tn Tryz.prog 34 [.agg #[.int .i64 4,.int .i64 412,.slice a 1 cp]] c (fun y:Option Addr × Nat=>.slice y.1 1 y.2) (fun y c'=>Row c' y.1 ac9∧(y.1=none→y.2=0)):=by
 refine Tn.in Tryz.func34 ?_;obtain ⟨b5,o5,hR⟩:=Row.rat hr 2 0 [.int .i64 0,.string ⟨pb9.toArray⟩] (fun i v h=>by rw[Nat.zero_mul,Nat.zero_add];simpa [nth_eq] using h) (by decide);refine go ?_;refine vA fun b1=>?_
 repeat' first|refine go ?_|fail
 refine vta (M1:=[]) (R1:=[]) (tr_gNew (v:=4) (m:=412) (.inl rfl) (by decide)) fun x _=>?_
 obtain ⟨g,f0,f1⟩:=x;dsimp only [List.cons_append,List.nil_append];refine LG.drop ?_ (.refl _)
 refine LG.dropr ?_
 repeat' first|refine go ?_|fail
 refine CG.nilr 92 4 ?_;refine CG.permr ?_ (List.Perm.swap _ _ _)
 refine vlo (fun y:Option RuX=>match y with|none=>[(3,pt g),(5,.slice none 0 0),(19,.slice a 1 cp),(20,.int .i64 1),(21,.int .i64 0)]|some z=>[(5,.slice z.a 1 z.cp),(20,.int .i64 1),(21,.int .i64 1)]) (fun y=>match y with|none=>c|some z=>z.c) (fun y=>match y with|none=>[frB f0 4 412 true (.slice none 0 0) 0,gdB g g9 (Ga.new (some ⟨f0,0,none⟩) (some ⟨f1,0,none⟩)),⟨b1,89,[.int .i64 4,.int .i64 412,.slice a 1 cp]⟩]|some z=>[]) (fun y=>match y with|none=>[byR none 0 [],⟨92,4,.slice none 0 0,0,[]⟩]|some z=>[⟨92,4,.slice z.a 1 z.cp,1,ac9⟩]) (fun y=>match y with|none=>True|some z=>Le c z.c) (fun y=>match y with|none=>1|some _=>0) none trivial fun y hy=>?_
 rcases y with _|z
 ·dsimp only
  refine go ?_
  repeat' first|refine go ?_|refine vix ?_|refine vlr ?_|fail
  refine vA fun b9=>?_
  repeat' first|refine go ?_|fail
  refine vsb fun c4 a4 n4 l4 r4 h4 h5=>?_
  refine LG.perm ?_ (List.perm_append_comm (l₁:=[_]) (l₂:=[_,_,_]))
  refine vta (M1:=[_,_]) (R1:=[_]) (tr_gFeed9 (hT.le l4) r4 h4) fun z ⟨z1,z2,z3⟩=>?_
  dsimp only [List.cons_append,List.nil_append];refine LG.permr ?_ (List.Perm.swap _ _ _)
  refine vgr z2 z3 (by intro q hq;simp at hq;rcases hq with rfl|rfl|rfl|rfl<;>rfl) fun a5 n5=>?_
  repeat' first|refine go ?_|fail
  refine EG.permr ?_ (List.Perm.swap _ _ _)
  refine EG.dropr ?_;exact ved (ved (ved (ved (vj (some (RuX.mk a5 n5 none 0 z.c)) (l4.trans z1) Nat.zero_lt_one))))
 ·dsimp only at hy ⊢
  repeat' first|refine go ?_|fail
  refine vefz fun c4 l4 r4 n4 m4 x4=>?_
  exact vrn ((z.a,z.cp),c4) ⟨hy.trans l4,r4,n4⟩
end
section
variable {c:World}
theorem tn_alive (hT:Tabs c):Tn Tryz.prog 13 [] c (fun _:Unit=>.bool true) (fun _ _=>True):=by
 refine Tn.in Tryz.func13 ?_
 repeat' first|refine go ?_|refine vA fun b=>?_|fail
 refine vlfB9 fun c1 l1 r1=>?_
 refine vtn (tn_Read (cp:=5) (hT.le l1) r1 (by decide)) fun y c2 l2 r2=>?_
 refine vtn (tn_Run9 ((hT.le l1).le l2) r2) fun z c3 l3 ⟨r3,n3⟩=>?_
 repeat' first|refine go ?_|fail
 obtain ⟨b5,o5,hR⟩:=Row.rat r3 4 0 ac9 (fun i v h=>by rw[Nat.zero_mul,Nat.zero_add];simpa [nth_eq] using h) (by decide)
 repeat' first|refine go ?_|refine vix ?_|refine vlrf ?_|fail
 exact vrn ((),c3) ⟨(l1.trans l2).trans l3,trivial⟩
end
theorem ck_version {c:World} (v:Int):Ck Tryz.prog 7 [.int .i64 v] c (.int .i64 (4+v % 18446744073709551616 % 2)):=by
 refine Ck.in Tryz.func7 ?_
 repeat' first|refine go ?_|fail
 refine vri ?_
 rfl
end Go.Proofs.YtohmcfmcbibbcaaGreatDoor
