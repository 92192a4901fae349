import Derived.Test.YtofjhopecfmbcaaGreatDoorYI1
import Derived.Test.YtofjhopecfmbcaaGreatDoorYH4
import Derived.Test.YtofjhopecfmbcaaGreatDoorYI5
import Derived.Test.YtofjhopecfmbcaaGreatDoorYK1
import Derived.Test.YtofjhopecfmbcaaGreatDoorYJ7
namespace Go.Proofs.YtofjhopecfmbcaaGreatDoor
open Go.RowKit
set_option linter.unusedVariables false
set_option linter.unusedSimpArgs false
set_option maxRecDepth 100000
set_option maxHeartbeats 8000000
abbrev prL (p:Pr):List Value:=[.int .u8 p.id,.int .u32 p.n,.string p.a,.string p.b]
section
variable {c:World}
theorem ck_ldefault:Ck Tryz.prog 11 [] c (.agg Lm.std.li.toArray):=by
 refine Ck.in Tryz.func11 ?_;refine go ?_;refine vA fun b=>?_
 refine go ?_;exact vrv rfl
theorem ck_says (hT:Tabs c) (v:Int) (p:Pk) (s:Sl) (hp:p.At s c) (hF:Fit p):Ck Tryz.prog 58 [.int .i64 v,p.val s] c (.bool (decide (v=5)&&((decide (p.kind=1)||decide (p.kind=2))&&rightP v p))):=by
 have c1:=ck_Right hT v p s hp hF;refine Ck.in Tryz.func58 ?_
 repeat' first|refine go ?_|refine vA fun b=>?_|refine vc (fun _=>?_) fun _=>?_|refine vg (fun _=>?_) fun _=>?_|refine vrb ?_|fail
 all_goals (clear c1;grind)
theorem ck_lOf (hT:Tabs c) (v:Int) (p:Pk) (s:Sl) (hp:p.At s c) (hF:Fit p) (hw:∀ x∈p.props,x.n < 4294967296):Ck Tryz.prog 38 [.int .i64 v,p.val s] c (.agg (ofP v p).li.toArray):=by
 have c1:=ck_ldefault (c:=c);have c2:=ck_says hT v p s hp hF;refine Ck.in Tryz.func38 ?_;refine go ?_;refine vA fun b3=>?_
 refine vA fun b4=>?_
 refine go ?_;refine vA fun b5=>?_
 refine go ?_
 by_cases h:v=5∧(p.kind=1∨p.kind=2)∧rightP v p=true
 case neg =>
  rw[show ofP v p=.std from if_neg h]
  have e:(decide (v=5)&&((decide (p.kind=1)||decide (p.kind=2))&&rightP v p))=false:=by
   cases hq:(decide (v=5)&&((decide (p.kind=1)||decide (p.kind=2))&&rightP v p)) with
   | false=>rfl
   | true=>exact absurd (by simpa using hq) h
  rw[e];refine go ?_;exact vrv rfl
 rw[show ofP v p=p.props.foldl stepL .std from if_pos h]
 have e:(decide (v=5)&&((decide (p.kind=1)||decide (p.kind=2))&&rightP v p))=true:=by
  obtain ⟨h1,h2,h3⟩:=h;rcases h2 with h2|h2<;>simp[h1,h2,h3]
  all_goals (rw[← h1];exact h3)
 rw[e];clear c1 c2 e h;refine go ?_;refine vlo (fun j:Nat=>[(4,pt b4),(5,pt b5),(15,.slice s.pa p.props.length s.pc),(16,.int .i64 p.props.length),(17,.int .i64 j)]) (fun _=>c) (fun j=>[⟨b5,43,((p.props.take j).foldl stepL .std).li⟩,⟨b4,43,[.int .u16 0,.int .u16 0,.int .i64 0,.int .u8 0,.bool false,.bool false,.bool false,.bool false]⟩,⟨b3,61,p.li s⟩]) (fun _=>[]) (fun j=>j≤p.props.length) (fun j=>p.props.length - j) 0 (Nat.zero_le _) fun j hj=>?_
 have hP:=hF.few.hp;rcases Nat.lt_or_ge j p.props.length with h|h
 ·obtain ⟨b8,o8,hR⟩:=Row.fm (f:=Pr.cells) (k:=4) hp.hp (fun x _=>rfl) (by decide) h
  have e3:(p.props.take (j+1)).foldl stepL .std=stepL ((p.props.take j).foldl stepL .std) p.props[j]:=by
   rw[List.take_add_one,List.getElem?_eq_getElem h,List.foldl_append]
   rfl
  have hn:=hw _ (List.getElem_mem h);generalize (p.props.take j).foldl stepL .std=l0 at *;generalize p.props[j]=x at *;have e2:(j:Int)+1=((j+1:Nat):Int):=by omega
  refine go ?_;refine vA fun b7=>?_
  repeat' first|refine go ?_|refine vc (fun _=>?_) fun _=>?_|fail
  all_goals
   rw[e2];refine ved (vj (j+1) h (hμ:=by omega) (hM:=?_))
   (try dsimp only)
   rw[e3];simp only[stepL]
   repeat rw[if_neg (by omega)]
   try rw[if_pos (by omega)]
  all_goals have hne:(!decide ((x.n:Int)=0))=(x.n != 0):=by by_cases h0:x.n=0<;>simp[h0]
  all_goals (try rw[hne])
  all_goals rfl
 ·rw[List.take_of_length_le h]
  refine go ?_;exact vrv rfl
end
structure Gr where
 clean:Bool
 named:Bool
 lasts:Bool
 proves:Bool
 method:ByteArray
structure Gp where
 v:Int
 ph:Int
 tu:Int
 g:Gr
 l0:Lm
 l1:Lm
 i0:List IRw
 i1:List IRw
 a0:List ARw
 a1:List ARw
structure Ga where
 f0:Option Addr
 f1:Option Addr
 i0:Option Addr
 n0:Nat
 i1:Option Addr
 n1:Nat
 a0:Option Addr
 m0:Nat
 a1:Option Addr
 m1:Nat
abbrev Gp.li (G:Gp) (s:Ga):List Value:=[.int .i64 G.v,.int .i64 G.ph,.int .i64 G.tu,.bool G.g.clean,.bool G.g.named,.bool G.g.lasts,.bool G.g.proves,.string G.g.method,
 .pointer s.f0,.int .u16 G.l0.rc,.int .u16 G.l0.al,.int .i64 G.l0.sz,.int .u8 G.l0.q,.bool G.l0.rt,.bool G.l0.wi,.bool G.l0.nu,.bool G.l0.sh,.slice s.i0 G.i0.length s.n0,.slice s.a0 G.a0.length s.m0,
 .pointer s.f1,.int .u16 G.l1.rc,.int .u16 G.l1.al,.int .i64 G.l1.sz,.int .u8 G.l1.q,.bool G.l1.rt,.bool G.l1.wi,.bool G.l1.nu,.bool G.l1.sh,.slice s.i1 G.i1.length s.n1,.slice s.a1 G.a1.length s.m1]
abbrev gdB (b:Nat) (G:Gp) (s:Ga):Bl:=⟨b,48,G.li s⟩
def propP (L:List Pr) (x:Nat):Pr:=(getL L x).getD Pr.zero
def hasP (L:List Pr) (x:Nat):Bool:=(getL L x).isSome
def greetsP (p:Pk):Gr:=⟨p.clean,!decide (p.client=⟨#[]⟩),!decide (((propP p.props 17).n:Int)=0),hasP p.props 21,(propP p.props 21).a⟩
def sendsP (v side k:Int):Bool :=
 if k=1∨k=8∨k=10∨k=12 then decide (side=0) else if k=2∨k=9∨k=11∨k=13 then decide (side=1) else if k=14 then decide (side=0)||decide (v=5) else true
def timelyP (G:Gp) (side k:Int):Bool :=
 if G.ph=0∨k=1 then decide (G.ph=0)&&decide (k=1) else if G.ph=2 then !decide (k=2) else if side=1 then decide (k=2)||decide (k=15) else if G.g.proves=true then decide (k=15)||decide (k=14) else true
def Gp.lim (G:Gp) (s:Nat):Lm:=if s=0 then G.l0 else G.l1
def Gp.ids (G:Gp) (s:Nat):List IRw:=if s=0 then G.i0 else G.i1
structure Gp.At (G:Gp) (s:Ga) (c:World):Prop where
 i0:Own9 c 69 s.i0 G.i0.length s.n0 (IRC G.i0)
 i1:Own9 c 69 s.i1 G.i1.length s.n1 (IRC G.i1)
 a0:Own9 c 72 s.a0 G.a0.length s.m0 (ARC G.a0)
 a1:Own9 c 72 s.a1 G.a1.length s.m1 (ARC G.a1)
theorem Gp.At.le {G:Gp} {s:Ga} {c c':World} (h:G.At s c) (k:Le c c'):G.At s c':=⟨h.i0.le9 k,h.i1.le9 k,h.a0.le9 k,h.a1.le9 k⟩
section
variable {c:World} {g:Nat} {G:Gp} {s:Ga}
theorem ck_getv {a:Option Addr} {n:Nat} {L:List Pr} (hr:Row c a (PC L)) (hl:L.length≤100000) (x:Nat) {xi:Int} (hx:xi=x):Ck Tryz.prog 39 [.slice a L.length n,.int .u8 xi] c (.tuple #[.agg (prL (propP L x)).toArray,.bool (hasP L x)]):=by
 subst hx;exact ckOf Tryz.func39 fun w k=>get_any a n L x w (hr.le k) hl
theorem ck_there (k:Int):Ck Tryz.prog 12 [.int .i64 k] c (.bool (decide (k=0)||decide (k=1))):=by
 refine Ck.in Tryz.func12 ?_
 repeat' first|refine go ?_|refine vc (fun _=>?_) fun _=>?_|refine vg (fun _=>?_) fun _=>?_|refine vrb ?_|fail
 all_goals grind
theorem ck_other (k:Int):Ck Tryz.prog 29 [.int .i64 k] c (.int .i64 (if k=0 then 1 else 0)):=by
 refine Ck.in Tryz.func29 ?_
 repeat' first|refine go ?_|refine vc (fun _=>?_) fun _=>?_|refine vg (fun _=>?_) fun _=>?_|refine vri ?_|fail
 all_goals grind
theorem ck_sends (v side k:Int):Ck Tryz.prog 22 [.int .i64 v,.int .i64 side,.int .i64 k] c (.bool (sendsP v side k)):=by
 refine Ck.in Tryz.func22 ?_
 repeat' first|refine go ?_|refine vc (fun _=>?_) fun _=>?_|refine vg (fun _=>?_) fun _=>?_|refine vrb ?_|fail
 all_goals grind [sendsP]
theorem ck_greets {p:Pk} {sl:Sl} (hp:p.At sl c) (hl:p.props.length≤100000) (hm:(propP p.props 21).a.size≤1000000):Ck Tryz.prog 37 [p.val sl] c (.agg #[.bool (greetsP p).clean,.bool (greetsP p).named,.bool (greetsP p).lasts,.bool (greetsP p).proves,.string (greetsP p).method]):=by
 have c1:=ck_getv (n:=sl.pc) hp.hp hl 17 rfl;have c2:=ck_getv (n:=sl.pc) hp.hp hl 21 rfl;have c3:=ck_sclone (c:=c) hm;refine Ck.in Tryz.func37 ?_;refine go ?_;refine vA fun b1=>?_
 refine vA fun b2=>?_
 refine go ?_;refine vA fun b3=>?_
 refine go ?_;refine vA fun b5=>?_
 refine go ?_;refine vh [0,1,3] ?_
 repeat' first|refine go ?_|refine vqx 0 ?_|fail
 refine vqbu 0 ?_
 repeat' first|refine go ?_|refine vqx 0 ?_|fail
 exact vrv rfl
theorem tr_timely {side kind:Int}:Tr Tryz.prog 23 [pt g,.int .i64 side,.int .i64 kind] c [gdB g G s] [] (fun _:Unit=>.bool (timelyP G side kind)) (fun _=>c) (fun _=>[gdB g G s]) (fun _=>[]) (fun _=>True):=by
 refine Tr.in Tryz.func23 ?_
 repeat' first|refine go ?_|refine vc (fun _=>?_) fun _=>?_|refine vg (fun _=>?_) fun _=>?_|refine vrt () trivial (hv:=congrArg Value.bool ?_)|fail
 all_goals (grind [timelyP])
end
section
variable {c:World} {g:Nat} {G:Gp} {s:Ga}
theorem tr_taken {j:Nat} {side:Int} (hj:j < 2) (hs:side=j):Tr Tryz.prog 24 [pt g,.int .i64 side] c [gdB g G s] [] (fun _:Unit=>.agg (G.lim (1 - j)).li.toArray) (fun _=>c) (fun _=>[gdB g G s]) (fun _=>[]) (fun _=>True):=by
 subst hs;have c1:=ck_other (c:=c) (j:Int);refine Tr.in Tryz.func24 ?_;rcases (show j=0∨j=1 by omega) with rfl|rfl
 ·refine go ?_
  refine vA fun b4=>?_
  refine go ?_;refine vh [1] ?_
  repeat' first|refine go ?_|refine vqx 0 ?_|fail
  refine vqxa 0 1 ?_;refine vqx 0 ?_;refine vqxp 0 ?_;refine go ?_;refine EG.perm ?_ (.swap _ _ _)
  exact vrtb () trivial
 ·refine go ?_
  refine vA fun b4=>?_
  refine go ?_;refine vh [1] ?_
  repeat' first|refine go ?_|refine vqx 0 ?_|fail
  refine vqxa 0 0 ?_;refine vqx 0 ?_;refine vqxp 0 ?_;refine go ?_;refine EG.perm ?_ (.swap _ _ _)
  exact vrtb () trivial
theorem tr_end:Tr Tryz.prog 34 [pt g] c [gdB g G s] [] (fun _:Unit=>.tuple #[]) (fun _=>c) (fun _=>[gdB g { G with ph:=3 } { s with f0:=none,f1:=none }]) (fun _=>[]) (fun _=>True):=by
 refine Tr.in Tryz.func34 ?_;refine go ?_;refine vlo (fun j:Nat=>[(0,pt g),(6,.int .i64 j)]) (fun _=>c) (fun j=>[gdB g { G with ph:=3 } { s with f0:=if j=0 then s.f0 else none,f1:=if j=2 then none else s.f1 }]) (fun _=>[]) (fun j=>j≤2) (fun j=>2 - j) 0 (Nat.zero_le _) fun j hj=>?_
 rcases (show j=0∨j=1∨j=2 by omega) with rfl|rfl|rfl
 ·refine go ?_
  refine vixa 0 ?_;refine go ?_;exact vj 1 (by omega) (hμ:=by omega)
 ·refine go ?_
  refine vixa 1 ?_;refine go ?_;exact vj 2 (by omega) (hμ:=by omega)
 ·refine go ?_
  exact vrt0 () trivial
end
abbrev Gp.over (G:Gp):Gp:={ G with ph:=3 }
abbrev Ga.over (s:Ga):Ga:={ s with f0:=none,f1:=none }
def connP (G:Gp) (p:Pk):Gp:={ G with ph:=1,g:=greetsP p,l0:=ofP G.v p,tu:=if (greetsP p).proves=true then 1 else G.tu }
section
variable {c:World} {g:Nat} {G:Gp} {s:Ga}
theorem ck_failed {v k:Int} {x:Nat} (hx:x < 256):Ck Tryz.prog 40 [.int .i64 v,.int .i64 k,.int .u8 x] c (.bool (failedB v k x)):=ckOf Tryz.func40 fun w _=>failed_any v k x w hx
theorem tr_connect (hT:Tabs c) {p:Pk} {sl:Sl} (hp:p.At sl c) (hF:Fit p) (hl:p.props.length≤100000) (hm:(propP p.props 21).a.size≤1000000) (hw:∀ x∈p.props,x.n < 4294967296):Tr Tryz.prog 25 [pt g,p.val sl] c [gdB g G s] [] (fun _:Unit=>.tuple #[]) (fun _=>c) (fun _=>[gdB g (connP G p) s]) (fun _=>[]) (fun _=>True):=by
 have c1:=ck_greets hp hl hm;have c2:=ck_lOf hT G.v p sl hp hF hw;refine Tr.in Tryz.func25 ?_;refine go ?_;refine vA fun b1=>?_
 refine go ?_;refine vh [0] ?_
 repeat' first|refine go ?_|refine vqx 0 ?_|refine vqx 1 ?_|refine vqxa 0 0 ?_|refine vqxa 1 0 ?_|refine vqlm ?_|fail
 refine vc (fun h=>?_) fun h=>?_
 ·refine go ?_
  refine ved ?_;have hd:connP G p={ G with ph:=1,g:=greetsP p,l0:=ofP G.v p,tu:=1 }:=by simp[connP,h]
  rw[hd];exact vrt0 () trivial
 ·refine go ?_
  refine ved ?_;have hd:connP G p={ G with ph:=1,g:=greetsP p,l0:=ofP G.v p }:=by simp[connP,h]
  rw[hd];exact vrt0 () trivial
end
def Lm.nil:Lm:=⟨0,0,0,0,false,false,false,false⟩
def Gp.new (v:Int) (l0 l1:Lm):Gp:=⟨v,0,-1,⟨false,false,false,false,⟨#[]⟩⟩,l0,l1,[],[],[],[]⟩
def Ga.new (f0 f1:Option Addr):Ga:=⟨f0,f1,none,0,none,0,none,0,none,0⟩
section
variable {c:World} {g:Nat} {v m:Int}
theorem tr_gNew (hv:v=4∨v=5) (hm:2≤m):Tr Tryz.prog 4 [.int .i64 v,.int .i64 m] c [] [] (fun y:Nat × Nat × Nat=>.tuple #[pt y.1,.int .i64 0]) (fun _=>c) (fun y=>[frB y.2.2 v m false (.slice none 0 0) 0,frB y.2.1 v m true (.slice none 0 0) 0,gdB y.1 (Gp.new v Lm.std Lm.std) (Ga.new (some ⟨y.2.1,0,none⟩) (some ⟨y.2.2,0,none⟩))]) (fun _=>[byR none 0 [],byR none 0 []]) (fun _=>True):=by
 refine Tr.in Tryz.func4 ?_;have c1:=ck_ldefault (c:=c);refine go ?_;refine vA fun g=>?_
 repeat' first|refine go ?_|fail
 refine vlo (fun y:List Nat=>match y with|[]=>[(0,.int .i64 v),(1,.int .i64 m),(6,pt g),(13,.int .i64 0)]|[_]=>[(0,.int .i64 v),(1,.int .i64 m),(6,pt g),(13,.int .i64 1)]|_ :: _ :: _=>[(0,.int .i64 v),(1,.int .i64 m),(6,pt g),(13,.int .i64 2)]) (fun _=>c) (fun y=>match y with|[]=>[gdB g (Gp.new v Lm.nil Lm.nil) (Ga.new none none)]|[f0]=>[frB f0 v m true (.slice none 0 0) 0,gdB g (Gp.new v Lm.std Lm.nil) (Ga.new (some ⟨f0,0,none⟩) none)]|f0 :: f1 :: _=>[frB f1 v m false (.slice none 0 0) 0,frB f0 v m true (.slice none 0 0) 0,gdB g (Gp.new v Lm.std Lm.std) (Ga.new (some ⟨f0,0,none⟩) (some ⟨f1,0,none⟩))]) (fun y=>match y with|[]=>[]|[_]=>[byR none 0 []]|_ :: _ :: _=>[byR none 0 [],byR none 0 []]) (fun _=>True) (fun y=>2 - y.length) [] trivial fun y hy=>?_
 rcases y with _|⟨f0,_|⟨f1,l⟩⟩
 ·dsimp only
  repeat' first|refine go ?_|fail
  refine vta (M1:=[]) (R1:=[]) (tr_New (fst:=true) hv hm) fun f _=>?_
  repeat' first|refine go ?_|fail
  refine vh [] ?_
  repeat' first|refine go ?_|refine vqx 0 ?_|refine vqxa 0 0 ?_|refine vqkk c1 ?_|refine vqbu 0 ?_|fail
  exact vj [f] trivial (by simp)
 ·dsimp only
  repeat' first|refine go ?_|fail
  refine vta (M1:=[]) (R1:=[]) (tr_New (fst:=false) hv hm) fun f _=>?_
  repeat' first|refine go ?_|fail
  refine vh [] ?_
  repeat' first|refine go ?_|refine vqx 0 ?_|refine vqxa 0 1 ?_|refine vqkk c1 ?_|refine vqbu 0 ?_|refine vqt2 ?_|fail
  exact vj [f0,f] trivial (by simp)
 ·dsimp only
  repeat' first|refine go ?_|fail
  exact vrt2 (g,f0,f1) trivial
end
section
variable {c:World} {g:Nat} {G:Gp} {s:Ga}
theorem tr_look1 (hT:Tabs c) {p:Pk} {sl:Sl} {a:Option Addr} {n cp:Nat} (hk:p.kind=1) (h0:G.ph=0) (hn:(n:Int)≤G.l1.sz) (hp:p.At sl c) (hF:Fit p) (hl:p.props.length≤100000) (hm:(propP p.props 21).a.size≤1000000) (hw:∀ x∈p.props,x.n < 4294967296):Tr Tryz.prog 14 [pt g,.int .i64 0,.agg (itL p sl (.slice a n cp)).toArray] c [gdB g G s] [] (fun _:Unit=>.int .u8 0) (fun _=>c) (fun _=>[gdB g (connP G p) s]) (fun _=>[]) (fun _=>True):=by
 have c1:=ck_sends (c:=c) G.v 0 p.kind;have e1:sendsP G.v 0 p.kind=true:=by simp[sendsP,hk]
 rw[e1]at c1;have t2:=tr_timely (c:=c) (g:=g) (G:=G) (s:=s) (side:=0) (kind:=p.kind);have e2:timelyP G 0 p.kind=true:=by simp[timelyP,hk,h0]
 rw[e2]at t2;have t3:=tr_taken (c:=c) (g:=g) (G:=G) (s:=s) (j:=0) (side:=0) (by decide) rfl;have e3:G.lim (1 - 0)=G.l1:=rfl;rw[e3]at t3;dsimp only [Lm.li]at t3;refine Tr.in Tryz.func14 ?_;refine go ?_;refine vA fun b5=>?_
 repeat' first|refine go ?_|fail
 refine vA fun b7=>?_
 repeat' first|refine go ?_|fail
 refine vh [0,1,2] ?_
 repeat' first|refine go ?_|refine vqx 0 ?_|refine vqx 1 ?_|refine vqkk c1 ?_|fail
 refine vqgF (b:=!true) ?_ (hp:=rfl)
 repeat' first|refine vqx 0 ?_|fail
 refine HG.perm ?_ (((List.Perm.swap _ _ _).cons _).trans (.swap _ _ _))
 refine vqt1a t2 fun _ _=>?_
 refine HG.perm ?_ ((List.Perm.swap _ _ _).trans ((List.Perm.swap _ _ _).cons _))
 repeat' first|refine go ?_|refine vqx 0 ?_|fail
 refine vh [0,1,2] ?_
 repeat' first|refine vqx 0 ?_|refine vqln ?_|fail
 refine HG.perm ?_ (((List.Perm.swap _ _ _).cons _).trans (.swap _ _ _))
 refine vqt1a t3 fun _ _=>?_
 refine HG.perm ?_ ((List.Perm.swap _ _ _).trans ((List.Perm.swap _ _ _).cons _))
 refine vqx 0 ?_ rfl rfl rfl ⟨fun a w o ho F _=>ex_field (v:=.int .i64 G.l1.sz) ho (F.v rfl) (by kernel_rfl)⟩
 repeat' first|refine go ?_|refine vqx 0 ?_|fail
 refine vt1c (tr_connect hT hp hF hl hm hw) fun _ _=>?_
 repeat' first|refine go ?_|fail
 exact ved (ved (vrt () trivial))
end
theorem CG.perm9 {P:Program} {Q:Kn} {x:Code} {N:Nat} {L:List (Nat × Value)} {c:World} {M M':List Bl} {R:List Rwv} (k:CG P Q x N L c M' R) (h:M.Perm M'):CG P Q x N L c M R:=⟨fun κ a w F S=>k.h κ a w F (S.perm h)⟩
section
variable {c:World} {g:Nat} {G:Gp} {s:Ga}
def conk0 (G:Gp) (p:Pk):Gp:={ G with ph:=2,tu:=-1,l1:=ofP G.v p }
theorem tr_conk0 (hT:Tabs c) {p:Pk} {sl:Sl} (hp:p.At sl c) (hF:Fit p) (h0:p.props=[]) (h1:p.present=false) (hc:p.code < 256) (h2:failedB G.v p.kind p.code=false) (h3:G.g.proves=false):Tr Tryz.prog 26 [pt g,p.val sl] c [gdB g G s] [] (fun _:Unit=>.int .u8 0) (fun _=>c) (fun _=>[gdB g (conk0 G p) s]) (fun _=>[]) (fun _=>True):=by
 have hl:p.props.length≤100000:=by rw[h0];decide
 have c1:=ck_getv (n:=sl.pc) hp.hp hl 18 rfl;have c2:=ck_getv (n:=sl.pc) hp.hp hl 21 rfl;have c3:=ck_failed (c:=c) (v:=G.v) (k:=p.kind) hc;have c5:=ck_lOf hT G.v p sl hp hF (by rw[h0];intro x hx;cases hx);have e1:hasP p.props 18=false:=by rw[h0];rfl
 have e2:hasP p.props 21=false:=by rw[h0];rfl
 rw[e1]at c1;rw[e2]at c2;rw[h2]at c3;refine Tr.in Tryz.func26 ?_;refine go ?_;refine vA fun b1=>?_
 refine go ?_;refine vA fun b2=>?_
 refine go ?_;refine vA fun b3=>?_
 refine go ?_;refine CG.perm9 ?_ (List.perm_append_comm (l₁:=[_,_,_]) (l₂:=[_]))
 refine vh [1,2,3] ?_
 repeat' first|refine go ?_|refine vqgF ?_|refine vqgT ?_|refine vqx 0 ?_|refine vqx 1 ?_|refine vqlm ?_|refine vqlmp ?_|refine vqxa 0 1 ?_|refine vqxa 1 1 ?_|refine vh [1,2,3] ?_|fail
 exact vrtb () trivial
theorem tr_look3 {p:Pk} {sl:Sl} {u:Value} (hk:p.kind=1) (h0:G.ph=2):Tr Tryz.prog 14 [pt g,.int .i64 0,.agg (itL p sl u).toArray] c [gdB g G s] [] (fun _:Unit=>.int .u8 130) (fun _=>c) (fun _=>[gdB g G s]) (fun _=>[]) (fun _=>True):=by
 have c1:=ck_sends (c:=c) G.v 0 p.kind;have e1:sendsP G.v 0 p.kind=true:=by simp[sendsP,hk]
 rw[e1]at c1;have t2:=tr_timely (c:=c) (g:=g) (G:=G) (s:=s) (side:=0) (kind:=p.kind);have e2:timelyP G 0 p.kind=false:=by simp[timelyP,hk,h0]
 rw[e2]at t2;refine Tr.in Tryz.func14 ?_;refine go ?_;refine vA fun b5=>?_
 repeat' first|refine go ?_|fail
 refine vA fun b7=>?_
 repeat' first|refine go ?_|fail
 refine vh [0,1,2] ?_
 repeat' first|refine go ?_|refine vqx 0 ?_|refine vqx 1 ?_|refine vqkk c1 ?_|fail
 refine vqgF (b:=!true) ?_ (hp:=rfl)
 repeat' first|refine vqx 0 ?_|fail
 refine HG.perm ?_ (((List.Perm.swap _ _ _).cons _).trans (.swap _ _ _))
 refine vqt1a t2 fun _ _=>?_
 refine HG.perm ?_ ((List.Perm.swap _ _ _).trans ((List.Perm.swap _ _ _).cons _))
 repeat' first|refine go ?_|refine vqx 0 ?_|fail
 exact ved (ved (vrt () trivial))
theorem tr_look2 (hT:Tabs c) {p:Pk} {sl:Sl} {a:Option Addr} {n cp:Nat} (hk:p.kind=2) (h0:G.ph=1) (hn:(n:Int)≤G.l0.sz) (hp:p.At sl c) (hF:Fit p) (hz:p.props=[]) (h1:p.present=false) (hc:p.code < 256) (h2:failedB G.v p.kind p.code=false) (h3:G.g.proves=false):Tr Tryz.prog 14 [pt g,.int .i64 1,.agg (itL p sl (.slice a n cp)).toArray] c [gdB g G s] [] (fun _:Unit=>.int .u8 0) (fun _=>c) (fun _=>[gdB g (conk0 G p) s]) (fun _=>[]) (fun _=>True):=by
 have c1:=ck_sends (c:=c) G.v 1 p.kind;have e1:sendsP G.v 1 p.kind=true:=by simp[sendsP,hk]
 rw[e1]at c1;have t2:=tr_timely (c:=c) (g:=g) (G:=G) (s:=s) (side:=1) (kind:=p.kind);have e2:timelyP G 1 p.kind=true:=by simp[timelyP,hk,h0]
 rw[e2]at t2;have t3:=tr_taken (c:=c) (g:=g) (G:=G) (s:=s) (j:=1) (side:=1) (by decide) rfl;have e3:G.lim (1 - 1)=G.l0:=rfl;rw[e3]at t3;dsimp only [Lm.li]at t3;refine Tr.in Tryz.func14 ?_;refine go ?_;refine vA fun b5=>?_
 repeat' first|refine go ?_|fail
 refine vA fun b7=>?_
 repeat' first|refine go ?_|fail
 refine vh [0,1,2] ?_
 repeat' first|refine go ?_|refine vqx 0 ?_|refine vqx 1 ?_|refine vqkk c1 ?_|fail
 refine vqgF (b:=!true) ?_ (hp:=rfl)
 repeat' first|refine vqx 0 ?_|fail
 refine HG.perm ?_ (((List.Perm.swap _ _ _).cons _).trans (.swap _ _ _))
 refine vqt1a t2 fun _ _=>?_
 refine HG.perm ?_ ((List.Perm.swap _ _ _).trans ((List.Perm.swap _ _ _).cons _))
 repeat' first|refine go ?_|refine vqx 0 ?_|fail
 refine vh [0,1,2] ?_
 repeat' first|refine vqx 0 ?_|refine vqln ?_|fail
 refine HG.perm ?_ (((List.Perm.swap _ _ _).cons _).trans (.swap _ _ _))
 refine vqt1a t3 fun _ _=>?_
 refine HG.perm ?_ ((List.Perm.swap _ _ _).trans ((List.Perm.swap _ _ _).cons _))
 refine vqx 0 ?_ rfl rfl rfl ⟨fun a w o ho F _=>ex_field (v:=.int .i64 G.l0.sz) ho (F.v rfl) (by kernel_rfl)⟩
 repeat' first|refine go ?_|refine vqx 0 ?_|fail
 refine vt1c (tr_conk0 hT hp hF hz h1 hc h2 h3) fun _ _=>?_
 repeat' first|refine go ?_|fail
 exact ved (ved (vrt () trivial))
end
section
variable {c:World} {g:Nat} {G:Gp} {s:Ga}
theorem tr_shut {side:Int} {code:Nat}:Tr Tryz.prog 15 [pt g,.int .i64 side,.int .u8 code] c [gdB g G s] [] (fun _:Unit=>.agg #[.int .i64 2,.int .i64 side,.int .u8 code,.string ⟨#[]⟩]) (fun _=>c) (fun _=>[gdB g G.over s.over]) (fun _=>[]) (fun _=>True):=by
 refine Tr.in Tryz.func15 ?_
 repeat' first|refine go ?_|refine vA fun b=>?_|refine vt1a tr_end fun _ _=>?_|refine vt1b tr_end fun _ _=>?_|fail
 refine EG.perm ?_ (.swap _ _ _)
 exact vrtb () trivial
theorem tr_Phase:Tr Tryz.prog 7 [pt g] c [gdB g G s] [] (fun _:Unit=>.int .i64 G.ph) (fun _=>c) (fun _=>[gdB g G s]) (fun _=>[]) (fun _=>True):=by
 refine Tr.in Tryz.func7 ?_;refine go ?_;refine vpz ?_
 repeat' first|refine go ?_|refine vc (fun _=>?_) fun _=>?_|fail
 all_goals first|exact vrt () trivial
end
def acF (j:Nat) (b:List UInt8):List Value:=[.int .i64 1,.int .i64 j,.int .u8 0,.string ⟨b.toArray⟩]
def acC (j code:Nat):List Value:=[.int .i64 2,.int .i64 j,.int .u8 code,.string ⟨#[]⟩]
structure GfY where
 a:Option Addr
 cp:Nat
 xa:Option Addr
 xc:Nat
 c:World
section
variable {c:World} {g f:Nat} {G G':Gp} {s:Ga} {v m:Int} {S S':Fs} {p:Pk} {b b':List UInt8}
theorem tr_gFeedF (hT:Tabs c) {j:Nat} (hj:j=0∨j=1) {a ab:Option Addr} {cp nb:Nat} (hr:Row c ab (B8 b)) (hn:ab=none→nb=0) (hl:S.h.length+b.length≤100000) (hf:feedS v m S b=([(p,b')],S')) (he:S'.e=0) (h3:G.ph≠3) (h4:G'.ph≠3) (hp:(if j=0 then s.f0 else s.f1)=some ⟨f,0,none⟩)
  (hk:∀ c' sl ba bc,Tabs c'→p.At sl c'→Tr Tryz.prog 14 [pt g,.int .i64 j,.agg (itL p sl (.slice ba b'.length bc)).toArray] c' [gdB g G s] [] (fun _:Unit=>.int .u8 0) (fun _=>c') (fun _=>[gdB g G' s]) (fun _=>[]) (fun _=>True)) :
  Tr Tryz.prog 6 [pt g,.int .i64 j,.slice ab b.length nb] c [frB f v m S.fst (.slice a S.h.length cp) S.e,gdB g G s] [byR a cp S.h] (fun y:GfY=>.slice y.a 1 y.cp) (fun y=>y.c) (fun y=>[frB f v m S'.fst (.slice y.xa S'.h.length y.xc) S'.e,gdB g G' s]) (fun y=>[byR y.xa y.xc S'.h]) (fun y=>Le c y.c∧Row y.c y.a (acF j b')∧(y.a=none→y.cp=0)):=by
 have c1:=ck_there (c:=c) (j:Int);have t2:=tr_Phase (c:=c) (g:=g) (G:=G) (s:=s);have t3:=tr_Feed (g:=f) (v:=v) (m:=m) (S:=S) (a:=a) (cp:=cp) (b:=b) (nb:=nb) hT hr hn hl;rw[hf]at t3;dsimp only at t3;refine Tr.in Tryz.func6 ?_;obtain ⟨u0,u1,u2,u3,u4,u5,u6,u7,u8,u9⟩:=s;rcases hj with rfl|rfl
 ·obtain rfl:u0=some ⟨f,0,none⟩:=by simpa using hp
  repeat' first|refine go ?_|refine vt1b t2 fun _ _=>?_|refine vixa 0 ?_|fail
  refine vt11 t3 fun x hx=>?_
  obtain ⟨L9,ia,ic,xa,xcp,c3⟩:=x;obtain ⟨x1,x2,x3,x4,x5⟩:=hx;dsimp only at x1 x2 x3 x4 x5 ⊢
  obtain ⟨it,rfl⟩:∃ it,L9=[it]:=by
   rcases L9 with _|⟨it,_|⟨_,_⟩⟩<;>simp at x2
   exact ⟨it,rfl⟩
  repeat' first|refine go ?_|fail
  refine CG.nilr 53 4 ?_;refine vlo (fun y:Option (Option Addr × Nat)=>match y with|none=>[(0,pt g),(1,.int .i64 0),(8,.int .i64 S'.e),(9,.slice none 0 0),(33,.slice ia 1 ic),(34,.int .i64 1),(35,.int .i64 0)]|some z=>[(0,pt g),(1,.int .i64 0),(8,.int .i64 S'.e),(9,.slice z.1 1 z.2),(33,.slice ia 1 ic),(34,.int .i64 1),(35,.int .i64 1)]) (fun _=>c3) (fun y=>match y with|none=>[frB f v m S'.fst (.slice xa S'.h.length xcp) S'.e,gdB g G (Ga.mk (some ⟨f,0,none⟩) u1 u2 u3 u4 u5 u6 u7 u8 u9)]|some _=>[frB f v m S'.fst (.slice xa S'.h.length xcp) S'.e,gdB g G' (Ga.mk (some ⟨f,0,none⟩) u1 u2 u3 u4 u5 u6 u7 u8 u9)]) (fun y=>match y with|none=>[⟨53,4,.slice none 0 0,0,[]⟩,byR xa xcp S'.h]|some z=>[⟨53,4,.slice z.1 1 z.2,1,acF 0 b'⟩,byR xa xcp S'.h]) (fun _=>True) (fun y=>match y with|none=>1|some _=>0) none trivial fun y _=>?_
  rcases y with _|⟨a',cp'⟩
  ·dsimp only
   obtain ⟨b5,o5,hR⟩:=Row.fm (f:=It.li) (k:=26) x4 (fun x _=>rfl) (by decide) (j:=0) Nat.zero_lt_one;have hA:=x3 it (by simp);obtain ⟨p9,sl,bb,ba,bc⟩:=it;obtain ⟨rfl,rfl⟩:p9=p∧bb=b':=by simpa using x2
   have t9:=hk c3 sl ba bc (hT.le x1) hA.p;replace hR:Rat c3 ia 26 0 b5 o5 (itL p9 sl (.slice ba bb.length bc)):=hR;have hB:Row c3 ba (B8 bb):=hA.b.row;have hN:ba=none→bc=0:=hA.b.nil;clear x2 x3 x4 t3 t2;refine go ?_
   repeat' first|refine go ?_|refine vix ?_|refine vlr ?_|fail
   refine vA fun b9=>?_
   repeat' first|refine go ?_|fail
   refine vt1c t9 fun _ _=>?_
   repeat' first|refine go ?_|refine vA fun b8=>?_|fail
   refine vgb fun a8 n8=>?_
   repeat' first|refine go ?_|fail
   exact ved (ved (vj (some (a8,n8)) trivial Nat.zero_lt_one))
  ·dsimp only
   rw[he]
   repeat' first|refine go ?_|fail
   refine vefz fun c4 l4 r4 n4 m4 x4=>?_
   exact vrt (GfY.mk a' cp' xa xcp c4) ⟨x1.trans l4,r4,n4⟩
 ·obtain rfl:u1=some ⟨f,0,none⟩:=by simpa using hp
  repeat' first|refine go ?_|refine vt1b t2 fun _ _=>?_|refine vixa 1 ?_|fail
  refine vt11 t3 fun x hx=>?_
  obtain ⟨L9,ia,ic,xa,xcp,c3⟩:=x;obtain ⟨x1,x2,x3,x4,x5⟩:=hx;dsimp only at x1 x2 x3 x4 x5 ⊢
  obtain ⟨it,rfl⟩:∃ it,L9=[it]:=by
   rcases L9 with _|⟨it,_|⟨_,_⟩⟩<;>simp at x2
   exact ⟨it,rfl⟩
  repeat' first|refine go ?_|fail
  refine CG.nilr 53 4 ?_;refine vlo (fun y:Option (Option Addr × Nat)=>match y with|none=>[(0,pt g),(1,.int .i64 1),(8,.int .i64 S'.e),(9,.slice none 0 0),(33,.slice ia 1 ic),(34,.int .i64 1),(35,.int .i64 0)]|some z=>[(0,pt g),(1,.int .i64 1),(8,.int .i64 S'.e),(9,.slice z.1 1 z.2),(33,.slice ia 1 ic),(34,.int .i64 1),(35,.int .i64 1)]) (fun _=>c3) (fun y=>match y with|none=>[frB f v m S'.fst (.slice xa S'.h.length xcp) S'.e,gdB g G (Ga.mk u0 (some ⟨f,0,none⟩) u2 u3 u4 u5 u6 u7 u8 u9)]|some _=>[frB f v m S'.fst (.slice xa S'.h.length xcp) S'.e,gdB g G' (Ga.mk u0 (some ⟨f,0,none⟩) u2 u3 u4 u5 u6 u7 u8 u9)]) (fun y=>match y with|none=>[⟨53,4,.slice none 0 0,0,[]⟩,byR xa xcp S'.h]|some z=>[⟨53,4,.slice z.1 1 z.2,1,acF 1 b'⟩,byR xa xcp S'.h]) (fun _=>True) (fun y=>match y with|none=>1|some _=>0) none trivial fun y _=>?_
  rcases y with _|⟨a',cp'⟩
  ·dsimp only
   obtain ⟨b5,o5,hR⟩:=Row.fm (f:=It.li) (k:=26) x4 (fun x _=>rfl) (by decide) (j:=0) Nat.zero_lt_one;have hA:=x3 it (by simp);obtain ⟨p9,sl,bb,ba,bc⟩:=it;obtain ⟨rfl,rfl⟩:p9=p∧bb=b':=by simpa using x2
   have t9:=hk c3 sl ba bc (hT.le x1) hA.p;replace hR:Rat c3 ia 26 0 b5 o5 (itL p9 sl (.slice ba bb.length bc)):=hR;have hB:Row c3 ba (B8 bb):=hA.b.row;have hN:ba=none→bc=0:=hA.b.nil;clear x2 x3 x4 t3 t2;refine go ?_
   repeat' first|refine go ?_|refine vix ?_|refine vlr ?_|fail
   refine vA fun b9=>?_
   repeat' first|refine go ?_|fail
   refine vt1c t9 fun _ _=>?_
   repeat' first|refine go ?_|refine vA fun b8=>?_|fail
   refine vgb fun a8 n8=>?_
   repeat' first|refine go ?_|fail
   exact ved (ved (vj (some (a8,n8)) trivial Nat.zero_lt_one))
  ·dsimp only
   rw[he]
   repeat' first|refine go ?_|fail
   refine vefz fun c4 l4 r4 n4 m4 x4=>?_
   exact vrt (GfY.mk a' cp' xa xcp c4) ⟨x1.trans l4,r4,n4⟩
theorem tr_gFeedR (hT:Tabs c) {a ab:Option Addr} {cp nb code:Nat} (hc:code≠0) (hr:Row c ab (B8 b)) (hn:ab=none→nb=0) (hl:S.h.length+b.length≤100000) (hf:feedS v m S b=([(p,b')],S')) (h3:G.ph≠3) (hp:s.f0=some ⟨f,0,none⟩)
  (hk:∀ c' sl ba bc,Tabs c'→p.At sl c'→Tr Tryz.prog 14 [pt g,.int .i64 0,.agg (itL p sl (.slice ba b'.length bc)).toArray] c' [gdB g G s] [] (fun _:Unit=>.int .u8 code) (fun _=>c') (fun _=>[gdB g G' s]) (fun _=>[]) (fun _=>True)) :
  Tr Tryz.prog 6 [pt g,.int .i64 0,.slice ab b.length nb] c [frB f v m S.fst (.slice a S.h.length cp) S.e,gdB g G s] [byR a cp S.h] (fun y:GfY=>.slice y.a 1 y.cp) (fun y=>y.c) (fun y=>[frB f v m S'.fst (.slice y.xa S'.h.length y.xc) S'.e,gdB g G'.over s.over]) (fun y=>[byR y.xa y.xc S'.h]) (fun y=>Le c y.c∧Row y.c y.a (acC 0 code)∧(y.a=none→y.cp=0)):=by
 have c1:=ck_there (c:=c) 0;have t2:=tr_Phase (c:=c) (g:=g) (G:=G) (s:=s);have t3:=tr_Feed (g:=f) (v:=v) (m:=m) (S:=S) (a:=a) (cp:=cp) (b:=b) (nb:=nb) hT hr hn hl;rw[hf]at t3;dsimp only at t3;refine Tr.in Tryz.func6 ?_;obtain ⟨u0,u1,u2,u3,u4,u5,u6,u7,u8,u9⟩:=s;obtain rfl:u0=some ⟨f,0,none⟩:=hp
 repeat' first|refine go ?_|refine vt1b t2 fun _ _=>?_|refine vixa 0 ?_|fail
 refine vt11 t3 fun x hx=>?_
 obtain ⟨L9,ia,ic,xa,xcp,c3⟩:=x;obtain ⟨x1,x2,x3,x4,x5⟩:=hx;dsimp only at x1 x2 x3 x4 x5 ⊢
 obtain ⟨it,rfl⟩:∃ it,L9=[it]:=by
  rcases L9 with _|⟨it,_|⟨_,_⟩⟩<;>simp at x2
  exact ⟨it,rfl⟩
 repeat' first|refine go ?_|fail
 refine CG.nilr 53 4 ?_;refine vlo (fun _:Unit=>[(0,pt g),(1,.int .i64 0),(8,.int .i64 S'.e),(9,.slice none 0 0),(33,.slice ia 1 ic),(34,.int .i64 1),(35,.int .i64 0)]) (fun _=>c3) (fun _=>[frB f v m S'.fst (.slice xa S'.h.length xcp) S'.e,gdB g G (Ga.mk (some ⟨f,0,none⟩) u1 u2 u3 u4 u5 u6 u7 u8 u9)]) (fun _=>[⟨53,4,.slice none 0 0,0,[]⟩,byR xa xcp S'.h]) (fun _=>True) (fun _=>0) () trivial fun _ _=>?_
 obtain ⟨b5,o5,hR⟩:=Row.fm (f:=It.li) (k:=26) x4 (fun x _=>rfl) (by decide) (j:=0) Nat.zero_lt_one;have hA:=x3 it (by simp);obtain ⟨p9,sl,bb,ba,bc⟩:=it;obtain ⟨rfl,rfl⟩:p9=p∧bb=b':=by simpa using x2
 have t9:=hk c3 sl ba bc (hT.le x1) hA.p;replace hR:Rat c3 ia 26 0 b5 o5 (itL p9 sl (.slice ba bb.length bc)):=hR;clear x2 x3 x4 t3 t2;refine go ?_
 repeat' first|refine go ?_|refine vix ?_|refine vlr ?_|fail
 refine vA fun b9=>?_
 repeat' first|refine go ?_|fail
 refine vt1c t9 fun _ _=>?_
 have h9:¬ (code:Int)=0:=by omega
 repeat' first|refine go ?_|fail
 refine vt1c tr_shut fun _ _=>?_
 repeat' first|refine go ?_|refine vA fun b8=>?_|fail
 refine vgb fun a8 n8=>?_
 repeat' first|refine go ?_|fail
 refine vefz fun c4 l4 r4 n4 m4 x4=>?_
 exact ved (ved (vrt (GfY.mk a8 n8 xa xcp c4) ⟨x1.trans l4,r4,n4⟩))
end
end Go.Proofs.YtofjhopecfmbcaaGreatDoor
