import Derived.Test.YtohmcfmcbibbcaaGreatDoorYH6
import Derived.Test.YtohmcfmcbibbcaaGreatDoorProg
import Derived.Test.YtohmcfmcbibbcaaGreatDoorYFJ
import Derived.Test.YtohmcfmcbibbcaaGreatDoorYFN
import Derived.Test.YtohmcfmcbibbcaaGreatDoorYI1
import Derived.Test.YtohmcfmcbibbcaaGreatDoorYH4
import Derived.Test.YtohmcfmcbibbcaaGreatDoorYF3
namespace Go.Proofs.YtohmcfmcbibbcaaGreatDoor
open Go.RowKit
set_option linter.unusedVariables false
set_option maxRecDepth 100000
section
variable {c:World}
theorem ck_rright {s:ByteArray} (hs:s.size≤140737488351232):Ck Tryz.prog 146 [.string s] c (.bool (okText s)):=ckOf Tryz.func146 fun w k=>(refRight_any s w (by omega)).mono fun e w' h=>⟨h.1,h.2▸Kept.refl No _⟩
theorem ck_rname {s:ByteArray} (hs:s.size≤140737488351232):Ck Tryz.prog 145 [.string s] c (.bool (nameB s)):=ckOf Tryz.func145 fun w k=>rname_any s w (by omega)
theorem ck_rfilter {s:ByteArray} (hs:s.size≤140737488351232):Ck Tryz.prog 126 [.string s] c (.bool (filterB s)):=ckOf Tryz.func126 fun w k=>rfilter_any s w (by omega)
theorem ck_rshared {s:ByteArray} (hs:s.size≤140737488351232):∃ a b,Ck Tryz.prog 64 [.string s] c (.tuple #[.string a,.string b,.bool (sharedB s)]):=by
 have h:∀ w,Le c w→_:=fun w k=>rshared_any s w (by omega)
 unfold sharedV at h;cases hS:sharedB s with
 | true=>rw[hS,if_pos rfl]at h;exact ⟨_,_,ckOf Tryz.func64 h⟩
 | false=>rw[hS,if_neg (by simp)]at h;exact ⟨_,_,ckOf Tryz.func64 h⟩
theorem ck_rknown {v k:Int} {x:Nat} (hx:x < 256):Ck Tryz.prog 91 [.int .i64 v,.int .i64 k,.int .u8 x] c (.bool (ke v k x)):=ckOf Tryz.func91 fun w _=>rknown_any v k x w hx
theorem ck_rget {a:Option Addr} {n:Nat} {L:List Pr} {x:Nat} {xi:Int} (hx:xi=x) (hr:Row c a (PC L)) (hl:L.length≤100000):∃ (i m:Nat) (A B:ByteArray),Ck Tryz.prog 61 [.slice a L.length n,.int .u8 xi] c (.tuple #[.agg #[.int .u8 i,.int .u32 m,.string A,.string B],.bool (getL L x).isSome]):=by
 obtain ⟨i,m,A,B,s,rfl,h⟩:=rgetp_at a n L x xi hx hl;exact ⟨_,_,_,_,ckOf Tryz.func61 fun w k=>h w (hr.le k)⟩
theorem ck_rcheck {k:Int} {a:Option Addr} {n:Nat} {L:List Pr} (hr:Row c a (PC L)) (hl:L.length≤100000) (hw:∀ p∈L,p.wf'):Ck Tryz.prog 88 [.int .i64 k,.slice a L.length n] c (.bool (checkB k L)):=ckOf Tryz.func88 fun w e=>rcheck_any k a n L w (hr.le e) hl hw
theorem ck_rpsame {a b:Option Addr} {n m:Nat} {L M:List Pr} (hr:Row c a (PC L)) (hr2:Row c b (PC M)) (hl:L.length≤100000) (hl2:M.length≤100000):Ck Tryz.prog 43 [.slice a L.length n,.slice b M.length m] c (.bool (decide (L=M))):=ckOf Tryz.func43 fun w k=>rsame_any a n L b m M w (hr.le k) (hr2.le k) hl hl2
end
set_option linter.unusedSimpArgs false
set_option maxHeartbeats 8000000
theorem neq_fi (f g:Fi) (w:World):Sem.run Tryz.prog (binOp .neq 79 (.agg #[.string f.text,.int .u8 f.opt]) (.agg #[.string g.text,.int .u8 g.opt])) w=.ok (.bool (!decide (f=g))) w:=by
 obtain ⟨a1,i1⟩:=f;obtain ⟨a2,i2⟩:=g;have hS:Tryz.prog.underlying 79=some (.struct (Tryz.prog.fieldsOf 79)):=by kernel_rfl
 have hp:Tryz.prog.stoodInHeld 79=false:=by kernel_rfl
 rw[run_neq_struct,show (10000:Nat)=9999+1 from rfl,run_equalIn_agg w 9999 79 _ _ hS hp];simp only[Program.fieldsOf,Tryz.underlying79];have u0:=Tryz.underlying5;have u2:=Tryz.underlying9
 go_simp
 by_cases h1:i1=i2<;>by_cases h3:a1=a2<;>simp[h1,h3,toList_inj,Int.natCast_inj]
section
variable {c:World} {N:Nat} {L:List (Nat × Value)} {x y:Operand}
theorem qnf {f g:Fi} {u:TypeId} (hx:lko L x=some (.agg #[.string f.text,.int .u8 f.opt])) (hy:lko L y=some (.agg #[.string g.text,.int .u8 g.opt])):Qo Tryz.prog N L c (.binOp .neq 79 x y u) (.bool (!decide (f=g))) :=
 ⟨fun A w o ho F hc=>ex_bin ho (F.v hx) (F.v hy) (by simp[eqGuard,neq_fi f g w])⟩
theorem codes_ok {l m:List UInt8}:((⟨l.toArray⟩:ByteArray)=⟨m.toArray⟩)=(l=m):=by simp
theorem ck_rSame (p q:Pk) (s t:Sl) (hp:p.At s c) (hq:q.At t c) (hF:p.few) (hG:q.few) (hs:s.ca=none→s.cc=0) (ht:t.ca=none→t.cc=0):Ck Tryz.prog 18 [p.val s,q.val t] c (.bool (decide (p=q))):=by
 have h1:=hF.hf;have h2:=hG.hf;have c1:=ck_rpsame (c:=c) (n:=s.pc) (m:=t.pc) hp.hp hq.hp hF.hp hG.hp;have c2:=ck_rpsame (c:=c) (n:=s.wc) (m:=t.wc) hp.hw hq.hw hF.hw hG.hw;have c3:=hp.hc;have c4:=hq.hc;have e1:=codes_ok (l:=p.codes) (m:=q.codes);rw[← sameB_eq];refine Ck.in Tryz.func18 ?_
 repeat' first|refine go ?_|refine vA fun b=>?_|refine vc (fun _=>?_) fun _=>?_|refine vg (fun _=>?_) fun _=>?_|refine vrb ?_|fail
 all_goals try (grind [sameB,willB];done)
 rename_i b0 k1 k2 k3 k4
 rw[e1]at k2;refine vlo (fun (j:Nat)=>[(2,pt b0),(3,pt b),(5,.int .i64 j)]) (fun _=>c) (fun _=>[⟨b,39,q.li t⟩,⟨b0,39,p.li s⟩]) (fun _=>[]) (fun j=>j≤p.filters.length∧p.filters.take j=q.filters.take j) (fun j=>p.filters.length - j) 0 ⟨by omega,rfl⟩ fun j hj=>?_
 rcases Nat.lt_or_ge j p.filters.length with h|h
 ·have h':j < q.filters.length:=by omega
  obtain ⟨b2,o2,hR⟩:=hp.hf.fi h;obtain ⟨b3,o3,hR2⟩:=hq.hf.fi h';refine go ?_;refine vh [0,1] ?_;refine go ?_;refine vqx 0 ?_ (h:=qh_q (qnf (f:=p.filters[j]) (g:=q.filters[j]) rfl rfl))
  refine go ?_;refine vc (fun g1=>?_) fun g1=>?_
  ·refine go ?_
   refine vrb ?_;have g2:p.filters≠q.filters:=fun e=>g1 (by simp[e])
   simp[sameB,g2]
  ·refine go ?_
   refine vj (j+1) ⟨h,?_⟩;rw[List.take_add_one,List.take_add_one,hj.2,List.getElem?_eq_getElem h,List.getElem?_eq_getElem h'];simp_all
 ·have g2:p.filters=q.filters:=by
   have:=hj.2
   rwa [List.take_of_length_le h,List.take_of_length_le (by omega)]at this
  repeat' first|refine go ?_|refine vc (fun _=>?_) fun _=>?_|refine vg (fun _=>?_) fun _=>?_|refine vrb ?_|fail
  all_goals (clear c1 c2 c3 c4;grind [sameB,willB])
end
section
variable {c:World}
theorem tn_from6 {a:Option Addr} {n:Nat} {L:List Pr} (hr:Row c a (PC L)) (hl:L.length≤100000):Tn Tryz.prog 51 [.slice a L.length n] c (fun x:Option Addr × Nat=>.slice x.1 L.length x.2) (fun x c'=>Own9 c' 123 x.1 L.length x.2 (PC L)) :=
 Tn.own (k:=4) Tryz.func51 fun w k=>fromlist_any a n L w (hr.le k) hl
structure F7 where
 b:Nat
 s:Sl
 c:World
structure F7f where
 l:List Fi
 fa:Option Addr
 fc:Nat
theorem tn_From7 (p:Pk) (s:Sl) (hp:p.At s c) (hF:p.few) (hs:s.ca=none→s.cc=0):Tn Tryz.prog 22 [p.val s] c (fun x:Sl=>p.val x) (fun x c'=>p.At x c'∧(x.ca=none→x.cc=0)):=by
 have h1:=hF.hf;have h2:=hF.hc;have h3:=hF.hp;have h4:=hF.hw;refine Tn.in Tryz.func22 ?_;refine go ?_;refine vA fun b1=>?_
 refine vA fun b2=>?_
 refine go ?_;refine vck (fun x:F7=>[(1,pt b1),(2,pt b2),(3,pt x.b)]) (fun x=>x.c) (fun x=>[⟨x.b,39,({ p with filters:=[] }:Pk).li x.s⟩,⟨b2,39,(zk 0).li sl0⟩,⟨b1,34,p.li s⟩]) (fun _=>[]) (fun x=>Le c x.c∧({ p with filters:=[] }:Pk).At x.s x.c∧(x.s.ca=none→x.s.cc=0)∧x.s.fa=none∧x.s.fc=0) ?_ fun ⟨xb,⟨wa,wc,fa,fc,ca,cc,pa,pc⟩,xc⟩ ⟨x1,x2,x3,x4,x5⟩=>?_
 ·refine vh [1] ?_
  refine go ?_
  repeat' first
   | refine go ?_
   | refine vqbu 0 ?_
   | refine vqp3 ?_ ?_ ?_
   | refine vqp2 ?_ ?_
   | refine vimt 5 fun a3 c3=>?_
   | refine viA fun b3=>?_
   | refine vitn (tn_from6 hp.hw h4) fun xw cw lw ow=>?_
   | refine vigr (hp.hc.le lw) hs (B8_one _) fun a4 c4=>?_
   | refine vitn (tn_from6 (hp.hp.le lw) h3) fun xp cp lp op=>?_
   | refine vqmt 5 fun a3 c3=>?_
   | refine vqA fun b3=>?_
   | refine vqtn (tn_from6 hp.hw h4) fun xw cw lw ow=>?_
   | refine vqgr (hp.hc.le lw) hs (B8_one _) fun a4 c4=>?_
   | refine vqtn (tn_from6 (hp.hp.le lw) h3) fun xp cp lp op=>?_
   | fail
  all_goals
   rw[Nat.zero_add p.codes.length,List.nil_append];refine vef9 fun c5 l5 o5=>?_
   exact vj (F7.mk b3 ⟨xw.1,xw.2,none,0,a4,c4,xp.1,xp.2⟩ c5) ⟨(lw.trans lp).trans l5,⟨ow.row.le (lp.trans l5),.nil _ _,o5.row,op.row.le l5⟩,o5.nil,rfl,rfl⟩
 ·dsimp only at x1 x2 x3 x4 x5
  subst x4 x5;refine go ?_;refine CG.nilr 79 2 ?_;refine vlo (fun y:F7f=>[(1,pt b1),(2,pt b2),(3,pt xb),(4,.int .i64 y.l.length)]) (fun _=>xc) (fun y=>[⟨xb,39,({ p with filters:=y.l }:Pk).li ⟨wa,wc,y.fa,y.fc,ca,cc,pa,pc⟩⟩,⟨b2,39,(zk 0).li sl0⟩,⟨b1,34,p.li s⟩]) (fun y=>[⟨79,2,.slice y.fa y.l.length y.fc,y.l.length,FC y.l⟩]) (fun y=>y.l=p.filters.take y.l.length∧y.l.length≤p.filters.length) (fun y=>p.filters.length - y.l.length) ⟨[],none,0⟩ ⟨rfl,Nat.zero_le _⟩ fun y ⟨g1,g2⟩=>?_
  rcases Nat.lt_or_ge y.l.length p.filters.length with h|h
  ·obtain ⟨b5,o5,hR⟩:=(hp.hf.le x1).fi h
   refine go ?_;refine vh [2] ?_;refine go ?_;refine vqy 1 ?_;refine vqy 1 ?_;refine vqy 1 ?_;refine vqy 1 ?_;refine vqy 1 ?_;refine vqy 1 ?_;refine vqy 1 ?_;refine vqy 1 ?_;refine vqy 1 ?_;refine vqy 1 ?_;refine vqy 1 ?_;refine vqy 1 ?_;refine vqbu 1 ?_;refine vq2 (i:=1) (j:=15) (vilm ?_) (viA fun b6=>?_)
   case' refine_1=>refine vqA fun b6=>?_
   case' refine_2=>refine vqlm ?_
   all_goals
    refine vqgb fun fa' fc'=>?_
    refine go ?_;refine ved ?_;have e1:y.l.length+1=(y.l++[p.filters[y.l.length]]).length:=by simp
    have e2:FC y.l++[.string p.filters[y.l.length].text,.int .u8 p.filters[y.l.length].opt]=FC (y.l++[p.filters[y.l.length]]):=by rw[FC_append,FC_one];rfl
    rw[e1,e2];refine vj (F7f.mk (y.l++[p.filters[y.l.length]]) fa' fc') ⟨?_,?_⟩ (hμ:=?_) (hL:=?_)
    ·dsimp only
     rw[← e1,List.take_add_one,← g1,List.getElem?_eq_getElem h]
     rfl
    ·dsimp only;omega
    ·dsimp only;omega
    ·refine ⟨rfl,rfl,rfl,?_,trivial⟩
     dsimp only;rw[← e1]
     rfl
  ·refine go ?_
   have e:y.l=p.filters:=by rw[g1,List.take_of_length_le h]
   obtain ⟨l,fa9,fc9⟩:=y;dsimp only at e;subst e;refine vef9 fun c5 l5 o5=>?_
   exact vrn (⟨wa,wc,fa9,fc9,ca,cc,pa,pc⟩,c5) ⟨x1.trans l5,⟨x2.hw.le l5,o5.row,x2.hc.le l5,x2.hp.le l5⟩,x3⟩
end
end Go.Proofs.YtohmcfmcbibbcaaGreatDoor
